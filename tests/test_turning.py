"""[34], [35], [36]: pieces that may stand turned."""

import itertools
import random
import unittest

from shortglue.errors import NoOrder, NoPiece, NotHeld, TooGreat, TooMany
from shortglue.families import Family
from shortglue.laps import lap
from shortglue.shortest import shortest
from shortglue.turning import Turnable, is_ways, turn_price_bound, turned, ways_in, ways_text
from shortglue.turnshort import shortest_turned
from things import ahead_of_all, all_texts, as_lists, is_plain, odd_things, some_pieces, soon


def both(word):
    return (word, "".join(reversed(word)))


def holds_some_way(text, words):
    return all(any(one in text for one in both(word)) for word in words)


def parted_by_hand(pieces):
    """What is kept and left, as [34] says it."""
    kept = []
    for at, piece in enumerate(pieces):
        within = any(len(other) > len(piece) and one in other for other in pieces for one in both(piece))
        told = any(one == other for other in pieces[:at] for one in both(piece))
        if not within and not told:
            kept.append(at)
    left = []
    for at, piece in enumerate(pieces):
        if at not in kept:
            holder = [one for one in kept if any(way in pieces[one] for way in both(piece))][0]
            way = 0 if piece in pieces[holder] else 1
            left.append((at, holder, pieces[holder].index(both(piece)[way]), way))
    return tuple(kept), tuple(left)


def text_by_hand(words, ways):
    text = ""
    before = None
    for i, way in ways:
        word = both(words[i])[way]
        text += word[lap(before, word):] if before else word
        before = word
    return text


def all_ways(many):
    for order in itertools.permutations(range(many)):
        for ways in itertools.product((0, 1), repeat=many):
            yield tuple(zip(order, ways))


def apart_words(source, many, letters, signs):
    """So many words of one length, none of them another one turned."""
    words = []
    while len(words) < many:
        word = "".join(source.choice(letters) for _ in range(signs))
        if word not in words and word[::-1] not in words:
            words.append(word)
    return words


class Turning(unittest.TestCase):
    def test_turned(self):
        for text, wanted in (("", ""), ("a", "a"), ("ab", "ba"), ("abc", "cba"), ("aba", "aba"), ("aab", "baa"),
                             ("ab" * 2000, "ba" * 2000)):
            self.assertEqual(turned(text), wanted)
        for text in all_texts("ab", 5):
            self.assertEqual(turned(text), "".join(text[len(text) - 1 - at] for at in range(len(text))))


class Parting(unittest.TestCase):
    def check(self, pieces):
        turnable = Turnable(pieces)
        kept, left = parted_by_hand(list(pieces))
        words = tuple(pieces[at] for at in kept)
        states = [one for word in words for one in both(word)]
        self.assertEqual(turnable.pieces, tuple(pieces))
        self.assertEqual((turnable.kept, turnable.left, turnable.words), (kept, left, words))
        self.assertEqual(turnable.laps, tuple(tuple(lap(one, other) for other in states) for one in states))
        self.assertEqual(len(turnable.laps), 2 * len(words))
        self.assertEqual(turnable.total, sum(len(word) for word in words))
        self.assertEqual(turnable.many(), len(words))
        for value in (turnable.pieces, turnable.kept, turnable.words, turnable.left, turnable.laps, turnable.total):
            self.assertTrue(is_plain(value))
        return turnable

    def test_no_pieces_and_one(self):
        for pieces in ([], ()):
            turnable = self.check(pieces)
            self.assertEqual((turnable.pieces, turnable.kept, turnable.words), ((), (), ()))
            self.assertEqual((turnable.left, turnable.laps, turnable.total, turnable.many()), ((), (), 0, 0))
        for pieces in (["aab"], ("aab",)):
            turnable = self.check(pieces)
            self.assertEqual((turnable.kept, turnable.words, turnable.left), ((0,), ("aab",), ()))
            self.assertEqual((turnable.laps, turnable.total, turnable.many()), (((0, 1), (2, 0)), 3, 1))

    def test_within_a_longer_one(self):
        self.assertEqual(self.check(["ab", "xaby"]).left, ((0, 1, 1, 0),))
        self.assertEqual(self.check(["ba", "xaby"]).left, ((0, 1, 1, 1),))
        self.assertEqual(self.check(["xaby", "ba", "yb", "y"]).left, ((1, 0, 1, 1), (2, 0, 2, 1), (3, 0, 3, 0)))

    def test_within_a_longer_one_both_ways(self):
        # Turned it stands at an earlier place, but as it was told goes first.
        self.assertEqual(self.check(["ab", "baxab"]).left, ((0, 1, 3, 0),))
        self.assertEqual(self.check(["ab", "baxabab"]).left, ((0, 1, 3, 0),))
        self.assertEqual(self.check(["ba", "baxab"]).left, ((0, 1, 0, 0),))

    def test_one_told_before(self):
        turnable = self.check(["abc", "cba", "abc", "abd"])
        self.assertEqual((turnable.kept, turnable.left), ((0, 3), ((1, 0, 0, 1), (2, 0, 0, 0))))
        self.assertEqual(self.check(("abc", "cba")).words, ("abc",))
        self.assertEqual(self.check(("cba", "abc")).words, ("cba",))

    def test_pieces_that_read_the_same_both_ways(self):
        turnable = self.check(["aba", "aba", "bab", "b"])
        self.assertEqual((turnable.kept, turnable.left), ((0, 2), ((1, 0, 0, 0), (3, 0, 1, 0))))
        self.assertEqual(turnable.laps, ((1, 1, 2, 2), (1, 1, 2, 2), (2, 2, 1, 1), (2, 2, 1, 1)))

    def test_the_first_kept_holder(self):
        # Piece 1 holds piece 0, but is left out itself.
        self.assertEqual(self.check(["b", "ab", "xba", "yb"]).left, ((0, 2, 1, 0), (1, 2, 1, 1)))
        # The first holder has it turned alone, a later one as it was told.
        self.assertEqual(self.check(["ab", "xba", "yab"]).left, ((0, 1, 1, 1),))

    def test_small_rows(self):
        for pieces in itertools.product(all_texts("ab", 3, 1), repeat=2):
            self.check(list(pieces))
        source = random.Random(111)
        for _ in range(300):
            self.check(some_pieces(source, source.randrange(1, 9), "abc", 7))

    def test_forty_pieces(self):
        source = random.Random(112)
        with soon():
            self.check(some_pieces(source, 40, "ab", 60))
            self.check(tuple(some_pieces(source, 40, "abc", 12)))
            self.assertEqual(self.check(apart_words(source, 40, "ab", 60)).many(), 40)
            self.assertEqual(self.check(["a" * 60] * 40).kept, (0,))
            self.assertEqual(self.check(["ab", "ba"] * 20).left[-1], (39, 0, 0, 1))

    def test_a_list_changed_behind_the_making(self):
        pieces = ["ab", "bc", "cb"]
        turnable = Turnable(pieces)
        self.assertEqual(pieces, ["ab", "bc", "cb"])
        pieces.append("zz")
        pieces[0] = "yy"
        self.assertEqual((turnable.pieces, turnable.words), (("ab", "bc", "cb"), ("ab", "bc")))
        self.assertEqual((turnable.many(), shortest_turned(turnable)), (2, "abc"))

    def test_too_many(self):
        for kind in (list, tuple):
            Turnable(kind(["a"] * 40))
            for things in (["a"] * 41, [None] * 41, ["A"] + ["a"] * 40, [True] * 100):
                with self.assertRaises(TooMany) as caught:
                    Turnable(kind(things))
                self.assertEqual(caught.exception.most, 40)

    def test_no_piece(self):
        for things, at in ((["A"], 0), (["a", "", "B"], 1), (("ab", "cd", "e f", 3), 2), (["a"] * 39 + [""], 39),
                           (["a" * 61], 0), (["a", True], 1), (["ab", "b?"], 1)):
            with self.assertRaises(NoPiece) as caught:
                Turnable(things)
            self.assertEqual(caught.exception.at, at)
        for number, thing in enumerate(odd_things()):
            if isinstance(thing, str) and thing in ("a", "b", "ab"):
                continue
            with self.subTest(number), self.assertRaises(NoPiece) as caught:
                Turnable(["ab", "c", thing, thing])
            self.assertEqual(caught.exception.at, 2)


class IsWays(unittest.TestCase):
    def test_right_rows(self):
        for thing, many in (((), 0), ([], 0), (((0, 1),), 1), ([[0, 0]], 1), ([(1, 0), [0, 1]], 2),
                            (((2, 1), (0, 1), (1, 0)), 3), ([(at, at & 1) for at in range(40)], 40)):
            self.assertIs(is_ways(thing, many), True)
            self.assertIs(is_ways(as_lists(thing), many), True)

    def test_wrong_rows(self):
        for thing, many in ((((0, 0),), 0), ((), 1), (((0, 0), (0, 1)), 2), (((0, 0), (2, 0)), 2),
                            (((0, 0), (-1, 0)), 2), (((0, 0),), 2), (((0, 2),), 1), (((0, -1),), 1), (((0, True),), 1),
                            (((False, 0),), 1), (((0, 0), (True, 0)), 2), (((0,),), 1), (((0, 0, 0),), 1), ((0,), 1),
                            ((0, 0), 1), ((0, 0), 2), (((0, None),), 1), (((None, 0),), 1), (({0: 0, 1: 0},), 1),
                            ({0: (0, 0)}, 1), ("a", 1), (("00",), 1), (((0, 0), (1, 0), (1, 1)), 2)):
            self.assertIs(is_ways(thing, many), False, thing)

    def test_all_small_rows(self):
        for row in itertools.product(itertools.product(range(-1, 3), repeat=2), repeat=2):
            wanted = sorted(i for i, way in row) == [0, 1] and all(way in (0, 1) for i, way in row)
            self.assertIs(is_ways(row, 2), wanted)

    def test_whatever_it_is(self):
        for number, thing in enumerate(odd_things()):
            with self.subTest(number):
                empty = isinstance(thing, (list, tuple)) and len(thing) == 0
                self.assertIs(is_ways(thing, 0), empty)
                self.assertIs(is_ways(thing, 1), thing in [((0, 1),), [(0, 1)]])
                self.assertIs(is_ways(thing, 2), False)
                self.assertIs(is_ways(thing, 3), False)
                self.assertIs(is_ways([(0, 0), thing], 2), isinstance(thing, tuple) and thing == (1, 1))
                whole = isinstance(thing, int) and not isinstance(thing, bool)
                self.assertIs(is_ways([(0, 0), (thing, 1)], 2), whole and thing == 1)
                self.assertIs(is_ways([(0, 0), (1, thing)], 2), whole and thing in (0, 1))


class WaysText(unittest.TestCase):
    def test_several_ways(self):
        turnable = Turnable(["abc", "dcb", "b"])
        self.assertEqual(ways_text(turnable, ((0, 0), (1, 1))), "abcd")
        self.assertEqual(ways_text(turnable, [[1, 0], [0, 1]]), "dcba")
        self.assertEqual(ways_text(turnable, [(0, 0), [1, 0]]), "abcdcb")
        self.assertEqual(ways_text(turnable, ((0, 1), (1, 1))), "cbabcd")

    def test_no_words_and_one(self):
        self.assertEqual(ways_text(Turnable([]), ()), "")
        self.assertEqual(ways_text(Turnable([]), []), "")
        self.assertEqual(ways_text(Turnable(["aab"]), [(0, 0)]), "aab")
        self.assertEqual(ways_text(Turnable(["aab"]), [(0, 1)]), "baa")

    def test_all_ways_of_small_families(self):
        source = random.Random(113)
        for _ in range(40):
            turnable = Turnable(some_pieces(source, 3, "ab", 6))
            for ways in all_ways(turnable.many()):
                text = ways_text(turnable, ways)
                self.assertEqual(text, text_by_hand(turnable.words, ways))
                self.assertTrue(holds_some_way(text, turnable.pieces))

    def test_no_order(self):
        turnable = Turnable(["abc", "xyz", "cb"])
        wrong = [((0, 0),), ((0, 0), (0, 1)), ((0, 0), (1, 2)), ((0, 0), (1, True)), ((0, 0), (2, 0)), (0, 1)]
        for number, thing in enumerate(odd_things() + wrong):
            with self.subTest(number):
                with self.assertRaises(NoOrder):
                    ways_text(turnable, thing)
                with self.assertRaises(NoOrder):
                    ways_text(turnable, [(1, 0), thing, (0, 1)])
        with self.assertRaises(NoOrder):
            ways_text(Turnable([]), [(0, 0)])
        with self.assertRaises(NoOrder):
            ways_text(Turnable([]), None)

    def test_what_is_handed_in_stays(self):
        turnable, ways = Turnable(["abc", "dcb"]), [[0, 0], [1, 1]]
        for _ in range(2):
            self.assertEqual(ways_text(turnable, ways), "abcd")
            ways_text(Turnable(["xy"]), [[0, 1]])
        self.assertEqual(ways, [[0, 0], [1, 1]])


class WaysIn(unittest.TestCase):
    def check(self, turnable, text):
        """What [35] says of the ways in any text that holds all words some way."""
        ways = ways_in(turnable, text)
        self.assertTrue(is_plain(ways))
        found = []
        for i, word in enumerate(turnable.words):
            spots = [(text.index(one), way) for way, one in enumerate(both(word)) if one in text]
            found.append((min(spots)[0], i, min(spots)[1]))
        self.assertEqual(ways, tuple((i, way) for place, i, way in sorted(found)))
        self.assertLessEqual(len(ways_text(turnable, ways)), len(text))
        return ways

    def test_words_that_stand_both_ways(self):
        turnable = Turnable(["abc", "xyz"])
        self.assertEqual(self.check(turnable, "cbaxyzabc"), ((0, 1), (1, 0)))
        self.assertEqual(self.check(turnable, "abczyxcba"), ((0, 0), (1, 1)))
        self.assertEqual(self.check(turnable, "zyxcbaabcxyz"), ((1, 1), (0, 1)))
        self.assertEqual(self.check(turnable, "qqzyxqqabcqq"), ((1, 1), (0, 0)))

    def test_both_stand_there_first(self):
        self.assertEqual(self.check(Turnable(["aba"]), "xaba"), ((0, 0),))
        self.assertEqual(self.check(Turnable(["aba", "bab"]), "babab"), ((1, 0), (0, 0)))

    def test_no_words(self):
        self.assertEqual(ways_in(Turnable([]), ""), ())
        self.assertEqual(ways_in(Turnable([]), "abc"), ())

    def test_not_held_tells_the_pieces_index(self):
        turnable = Turnable(["b", "abc", "c", "cabx", "yca"])
        self.assertEqual(turnable.kept, (1, 3, 4))
        for text, at in (("", 1), ("xbac", 1), ("cba", 3), ("abccabx", 4), ("cbaxbac", 4), ("yca", 1), ("cbayca", 3)):
            with self.assertRaises(NotHeld) as caught:
                ways_in(turnable, text)
            self.assertEqual(caught.exception.at, at)

    def test_no_longer_than_any_text(self):
        source = random.Random(114)
        texts = all_texts("ab", 8)
        held = 0
        for _ in range(25):
            turnable = Turnable(some_pieces(source, 3, "ab", 4))
            for text in texts:
                if holds_some_way(text, turnable.words):
                    self.check(turnable, text)
                    held += 1
        self.assertGreater(held, 500)

    def test_forty_words_in_a_great_text(self):
        source = random.Random(115)
        text = "".join(source.choice("ab") for _ in range(4000))
        pieces = [both(text[at:at + 60])[at // 100 & 1] for at in range(0, 4000, 100)]
        turnable = Turnable(pieces)
        self.assertEqual(turnable.many(), 40)
        self.assertEqual(self.check(turnable, text), tuple((i, i & 1) for i in range(40)))

    def test_asked_again(self):
        turnable = Turnable(["abc", "xyz"])
        first = ways_in(turnable, "zyxabc")
        ways_in(Turnable(["ab"]), "ba")
        self.assertEqual(ways_in(turnable, "zyxabc"), first)


class TurnPriceBound(unittest.TestCase):
    turnable = Turnable(["abc", "dcb", "b"])
    # The states are abc, cba, dcb, bcd.

    def none(self, paper, turnable=None):
        self.assertIsNone(turn_price_bound(self.turnable if turnable is None else turnable, paper))

    def test_right_papers(self):
        self.assertEqual(self.turnable.laps, ((0, 1, 0, 2), (1, 0, 0, 0), (0, 2, 0, 1), (0, 0, 1, 0)))
        self.assertEqual(turn_price_bound(self.turnable, ((2, 0, 2, 0), (0, 0, 0, 0))), 2)
        self.assertEqual(turn_price_bound(self.turnable, ((2, 0, 2, 1), (0, 0, 0, 0))), 2)
        self.assertEqual(turn_price_bound(self.turnable, ((1, 0, 1, 0), (0, 1, 0, 1))), 6 - 1 - 1)
        self.assertEqual(turn_price_bound(self.turnable, [[1, 0, 1, 0], (0, 1, 0, 1)]), 4)
        self.assertEqual(turn_price_bound(self.turnable, [[0, 0, 0, 0], [0, 2, 0, 2]]), 2)
        self.assertEqual(turn_price_bound(self.turnable, ((2, 0, 2, 0), (0, 10 ** 30, 0, 2))), 6 - 10 ** 30 - 2)

    def test_the_greater_sum_of_each_word(self):
        turnable = Turnable(["abc", "xyz"])
        self.assertEqual(turn_price_bound(turnable, ((1, 2, 0, 0), (3, 1, 0, 7))), 6 - 4 - 7)
        self.assertEqual(turn_price_bound(turnable, ((1, 3, 0, 0), (0, 1, 6, 5))), 6 - 4 - 6)
        self.assertEqual(turn_price_bound(turnable, ((0, 0, 0, 0), (0, 0, 0, 0))), 6)

    def test_states_of_one_word_ask_nothing_of_one_another(self):
        turnable = Turnable(["aab"])
        self.assertEqual(turnable.laps, ((0, 1), (2, 0)))
        self.assertEqual(turn_price_bound(turnable, ((0, 0), (0, 0))), 3)
        self.assertEqual(turn_price_bound(Turnable(["aaaa"]), ((0, 0), (0, 0))), 4)

    def test_no_words(self):
        for paper in (((), ()), [[], []], [(), []]):
            self.assertEqual(turn_price_bound(Turnable([]), paper), 0)
        for paper in ((), ((),), ((), (), ()), ((0,), ()), ((), (0,)), "", {}, None, 0):
            self.none(paper, Turnable([]))

    def test_one_price_too_low(self):
        for gives, takes in (((1, 0, 2, 1), (0, 0, 0, 0)), ((2, 0, 1, 1), (0, 0, 0, 0)),
                             ((0, 0, 0, 0), (0, 2, 0, 1)), ((0, 0, 0, 0), (0, 1, 0, 2)), ((0, 0, 0, 0), (0, 0, 0, 0))):
            self.none((gives, takes))

    def test_all_papers_of_two_words(self):
        source = random.Random(116)
        for _ in range(4):
            turnable = Turnable(apart_words(source, 2, "ab", 3))
            pairs = [(a, b) for a in range(4) for b in range(4) if a // 2 != b // 2]
            for row in itertools.product(range(3), repeat=8):
                gives, takes = row[:4], row[4:]
                right = all(gives[a] + takes[b] >= turnable.laps[a][b] for a, b in pairs)
                sums = [gives[a] + takes[a] for a in range(4)]
                wanted = turnable.total - max(sums[:2]) - max(sums[2:]) if right else None
                self.assertEqual(turn_price_bound(turnable, (gives, takes)), wanted)

    def test_rows_of_the_wrong_length(self):
        zeros = Turnable(["abc", "xyz"])
        for paper in (((0,) * 4, (0,) * 3), ((0,) * 3, (0,) * 4), ((0,) * 5, (0,) * 4), ((0,) * 4, (0,) * 5),
                      ((0,) * 2, (0,) * 2), ((0,) * 4,), ((0,) * 4,) * 3, (0,) * 8, {0: (0,) * 4, 1: (0,) * 4}):
            self.none(paper, zeros)

    def test_numbers_of_another_kind(self):
        zeros = Turnable(["abc", "xyz"])
        for thing in (True, False, None, "1", (1,), [], -1, -(10 ** 5000)):
            for which, at in itertools.product(range(2), range(4)):
                paper = [[2, 2, 2, 2], [2, 2, 2, 2]]
                self.assertEqual(turn_price_bound(zeros, paper), -2)
                paper[which][at] = thing
                self.none(paper, zeros)

    def test_whatever_it_is(self):
        for number, thing in enumerate(odd_things()):
            with self.subTest(number):
                self.none(thing)
                self.none((thing, (2, 2, 2, 2)))
                self.none(((2, 2, 2, 2), thing))
                self.none(thing, Turnable([]))
                self.none(thing, Turnable(["ab"]))
        self.assertEqual(turn_price_bound(Turnable(["ab"]), ((0, 10 ** 5000), (0, 0))), 2 - 10 ** 5000)

    def test_no_text_is_shorter(self):
        source = random.Random(117)
        for _ in range(60):
            turnable = Turnable(some_pieces(source, source.randrange(0, 4), "ab", 6))
            least = min(len(ways_text(turnable, ways)) for ways in all_ways(turnable.many()))
            states = range(2 * turnable.many())
            for _ in range(8):
                gives = [source.randrange(4) for _ in states]
                takes = [max([turnable.laps[a][b] - gives[a] for a in states if a // 2 != b // 2] + [0]) for b in states]
                bound = turn_price_bound(turnable, (gives, takes))
                self.assertLessEqual(bound, least)

    def test_what_is_handed_in_stays(self):
        paper = [[1, 0, 1, 0], [0, 1, 0, 1]]
        for _ in range(2):
            self.assertEqual(turn_price_bound(self.turnable, paper), 4)
            turn_price_bound(Turnable(["xy"]), ((0, 0), (0, 0)))
        self.assertEqual(paper, [[1, 0, 1, 0], [0, 1, 0, 1]])


class ShortestTurned(unittest.TestCase):
    def test_no_words_and_one(self):
        self.assertEqual(shortest_turned(Turnable([])), "")
        self.assertEqual(shortest_turned(Turnable(["aab"])), "aab")
        self.assertEqual(shortest_turned(Turnable(["baa"])), "aab")
        self.assertEqual(shortest_turned(Turnable(["ba", "ab", "b"])), "ab")
        self.assertEqual(shortest_turned(Turnable(["aba", "b"])), "aba")

    def test_known_texts(self):
        self.assertEqual(shortest_turned(Turnable(["abc", "dcb"])), "abcd")
        self.assertEqual(shortest_turned(Turnable(["dcb", "abc"])), "abcd")
        self.assertEqual(shortest_turned(Turnable(["zy", "yx", "cb", "ba"])), "abcxyz")

    def test_against_all_ways(self):
        source = random.Random(118)
        for _ in range(150):
            turnable = Turnable(some_pieces(source, source.randrange(1, 5), source.choice(("ab", "abc")), 6))
            texts = [text_by_hand(turnable.words, ways) for ways in all_ways(turnable.many())]
            told = shortest_turned(turnable)
            self.assertIsInstance(told, str)
            self.assertEqual(told, ahead_of_all(texts))
            self.assertTrue(holds_some_way(told, turnable.pieces))

    def test_against_all_texts(self):
        source = random.Random(119)
        texts = all_texts("ab", 9)
        found = 0
        for _ in range(40):
            turnable = Turnable(some_pieces(source, 3, "ab", 5))
            first = [text for text in texts if holds_some_way(text, turnable.words)][:1]
            if first:
                self.assertEqual(shortest_turned(turnable), first[0])
                found += 1
        self.assertGreater(found, 20)

    def test_pieces_told_turned(self):
        source = random.Random(120)
        for _ in range(60):
            pieces = some_pieces(source, source.randrange(1, 7), "ab", 7)
            if Turnable(pieces).many() > 6:
                continue
            first = shortest_turned(Turnable(pieces))
            for _ in range(4):
                other = [both(piece)[source.randrange(2)] for piece in pieces]
                self.assertEqual(shortest_turned(Turnable(other)), first)

    def test_never_longer_than_as_told(self):
        source = random.Random(121)
        for _ in range(40):
            pieces = some_pieces(source, 5, "abc", 7)
            self.assertLessEqual(len(shortest_turned(Turnable(pieces))), len(shortest(Family(pieces))))

    def test_six_words(self):
        source = random.Random(122)
        with soon():
            for letters, signs in (("ab", 60), ("ab", 6), ("abcdefgh", 3)):
                turnable = Turnable(apart_words(source, 6, letters, signs))
                self.assertEqual(turnable.many(), 6)
                told = shortest_turned(turnable)
                self.assertTrue(holds_some_way(told, turnable.words))
            text = "abcdefghijklmnop"
            pieces = [both(text[at:at + 6])[at // 2 & 1] for at in range(0, 12, 2)]
            source.shuffle(pieces)
            self.assertEqual(shortest_turned(Turnable(pieces)), text)

    def test_six_words_against_all_ways(self):
        source = random.Random(123)
        turnable = Turnable(apart_words(source, 6, "ab", 7))
        self.assertEqual(shortest_turned(turnable), ahead_of_all([ways_text(turnable, ways) for ways in all_ways(6)]))

    def test_seven_words(self):
        source = random.Random(124)
        pieces = apart_words(source, 7, "ab", 7)
        for many in (pieces, pieces + ["a"], apart_words(source, 40, "ab", 12)):
            with soon(), self.assertRaises(TooGreat) as caught:
                shortest_turned(Turnable(many))
            self.assertEqual(caught.exception.most, 6)
        self.assertTrue(shortest_turned(Turnable(pieces[:6] + ["a", "b", both(pieces[0])[1]])))

    def test_asked_again(self):
        pieces = ["abc", "bca", "cab", "ca"]
        turnable = Turnable(pieces)
        first = shortest_turned(turnable)
        shortest_turned(Turnable(["xy", "yz"]))
        self.assertEqual((shortest_turned(turnable), shortest_turned(Turnable(tuple(pieces)))), (first, first))
        self.assertEqual(pieces, ["abc", "bca", "cab", "ca"])


if __name__ == "__main__":
    unittest.main()
