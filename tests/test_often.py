"""[37], [38]: pieces that must stand often."""

import itertools
import random
import unittest

from shortglue.errors import NoCounts, NoOrder, NoPiece, NotApart, NotHeld, TooGreat, TooMany
from shortglue.laps import lap
from shortglue.often import Often, is_full_row, often_bound, row_in, row_text
from shortglue.oftenshort import shortest_often
from things import ahead_of_all, all_texts, is_plain, odd_things, some_pieces, soon, words_of_length

NO_PIECES = Often([], [])


def spots(text, piece):
    return [at for at in range(len(text)) if text[at:].startswith(piece)]


def holds_often(text, often):
    return all(len(spots(text, piece)) >= count for piece, count in zip(often.pieces, often.counts))


def first_row(often):
    return [i for i, count in enumerate(often.counts) for _ in range(count)]


def full_rows(often):
    return sorted(set(itertools.permutations(first_row(often))))


def text_by_hand(often, row):
    text = ""
    for at, i in enumerate(row):
        piece = often.pieces[i]
        text += piece[lap(often.pieces[row[at - 1]], piece):] if at else piece
    return text


def some_often(source, letters="ab", most=4, places=6):
    """Some pieces apart from one another with counts, no more than so many places in all."""
    pieces = []
    for piece in some_pieces(source, source.randrange(1, 4), letters, most):
        if not any(piece in other or other in piece for other in pieces):
            pieces.append(piece)
    counts = [1 for _ in pieces]
    while sum(counts) < places and source.randrange(4):
        counts[source.randrange(len(counts))] += 1
    return Often(pieces, counts)


class Making(unittest.TestCase):
    def check(self, pieces, counts):
        often = Often(pieces, counts)
        self.assertEqual((often.pieces, often.counts), (tuple(pieces), tuple(counts)))
        self.assertEqual(often.laps, tuple(tuple(lap(one, other) for other in pieces) for one in pieces))
        self.assertEqual(often.total, sum(len(piece) * count for piece, count in zip(pieces, counts)))
        for value in (often.pieces, often.counts, often.laps, often.total):
            self.assertTrue(is_plain(value))
        return often

    def test_values(self):
        often = self.check(["aba", "bab"], (2, 3))
        self.assertEqual((often.laps, often.total), (((1, 2), (2, 1)), 15))
        self.assertEqual(self.check(("aaaa",), [9]).laps, ((3,),))
        for _ in range(2):
            often = self.check([], ())
            self.assertEqual((often.pieces, often.counts, often.laps, often.total), ((), (), (), 0))
        self.check((), [])

    def test_lists_changed_behind_the_making(self):
        pieces, counts = ["ab", "bc"], [2, 1]
        often = Often(pieces, counts)
        self.assertEqual((pieces, counts), (["ab", "bc"], [2, 1]))
        pieces[0] = "zz"
        pieces.append("yy")
        counts[0] = 9
        counts.append(7)
        self.assertEqual((often.pieces, often.counts, often.total), (("ab", "bc"), (2, 1), 6))
        self.assertEqual(shortest_often(often), "ababc")
        self.assertIs(is_full_row(often, [0, 0, 1]), True)

    def test_two_side_by_side(self):
        one, other = Often(["ab"], [2]), Often(["xyz"], [1])
        self.assertEqual((one.pieces, other.pieces, one.counts, other.counts), (("ab",), ("xyz",), (2,), (1,)))


class Refused(unittest.TestCase):
    def refused(self, error, field, pieces, counts):
        with self.assertRaises(error) as caught:
            Often(pieces, counts)
        value = caught.exception.most if error in (TooMany, TooGreat) else caught.exception.at
        self.assertEqual(value, field)

    def test_too_many(self):
        self.refused(TooMany, 40, ["a"] * 41, [1] * 41)
        self.refused(TooMany, 40, tuple(words_of_length(random.Random(1), 41, "ab", 7)), [1] * 41)
        self.refused(TooMany, 40, [None] * 41, None)
        self.refused(TooMany, 40, ["A"] + ["a"] * 40, [0])

    def test_no_piece(self):
        self.refused(NoPiece, 0, [""], [1])
        self.refused(NoPiece, 1, ["ab", "A", "ab"], [1, 1, 1])
        self.refused(NoPiece, 2, ["a", "a", None], None)
        self.refused(NoPiece, 1, ("b", "a" * 61), [0, 0])
        for number, thing in enumerate(odd_things()):
            if isinstance(thing, str) and thing in ("a", "b", "ab"):
                continue
            with self.subTest(number):
                self.refused(NoPiece, 2, ["ab", "ab", thing, thing], thing)

    def test_not_apart(self):
        self.refused(NotApart, 1, ["ab", "ab"], [1, 1])
        self.refused(NotApart, 0, ["b", "ab"], [1, 1])
        self.refused(NotApart, 1, ["xab", "ab", "b"], [1, 1, 1])
        self.refused(NotApart, 0, ["b", "xab", "xab"], [1, 1, 1])
        self.refused(NotApart, 2, ["ab", "cd", "ab", "c"], [9, 9, 9, 9])
        self.refused(NotApart, 1, ["ab", "ab"], None)
        self.refused(NotApart, 1, ("ab", "b"), [0])
        self.refused(NotApart, 39, words_of_length(random.Random(2), 39, "abc", 5) + ["a"], [])

    def test_counts_that_are_no_row(self):
        for number, thing in enumerate(odd_things()):
            if not isinstance(thing, (list, tuple)):
                with self.subTest(number):
                    self.refused(NoCounts, 0, ["ab", "cd"], thing)
                    self.refused(NoCounts, 0, [], thing)

    def test_counts_that_are_no_whole_numbers_from_one_to_nine(self):
        for number, thing in enumerate(odd_things() + [10, 9 + 10 ** 30]):
            if isinstance(thing, int) and not isinstance(thing, bool) and 1 <= thing <= 9:
                continue
            with self.subTest(number):
                self.refused(NoCounts, 0, ["ab", "cd"], [thing, 1])
                self.refused(NoCounts, 1, ["ab", "cd"], (1, thing))
                self.refused(NoCounts, 1, ["ab", "cd", "ef"], [9, thing, thing])
                self.refused(NoCounts, 1, ["ab", "cd", "ef"], [9, thing])
                self.refused(NoCounts, 1, ["ab", "cd"], [9, thing, 1, 1])
        Often(["ab", "cd"], [1, 9])

    def test_too_few_and_too_many_counts(self):
        self.refused(NoCounts, 0, ["ab"], [])
        self.refused(NoCounts, 0, [], [1])
        self.refused(NoCounts, 0, (), (None, None))
        self.refused(NoCounts, 1, ["ab", "cd"], [1])
        self.refused(NoCounts, 2, ["ab", "cd"], [1, 1, 1])
        self.refused(NoCounts, 2, ["ab", "cd"], (1, 1, None))
        # What is wrong at an index that both have goes first.
        self.refused(NoCounts, 0, ["ab", "cd"], [0])
        self.refused(NoCounts, 1, ["ab", "cd"], [1, 0, 1])

    def test_too_great(self):
        words = words_of_length(random.Random(3), 40, "ab", 8)
        for counts in ((4, 9, 9), (9, 9, 4), (1, 4, 4, 9), (3, 4, 4, 4), (1,) * 8, (9,), (9, 9), (7, 7, 6)):
            self.assertEqual(Often(words[:len(counts)], counts).counts, counts)
        for counts in ((6, 7, 8), (9, 9, 5), (1,) * 9, (9, 9, 9), (1, 1, 1, 1, 1, 1, 1, 3), (1,) * 40, (9,) * 40):
            self.refused(TooGreat, 500, words[:len(counts)], counts)
        self.refused(NoCounts, 3, words[:4], (9, 9, 9))
        self.refused(NoCounts, 3, words[:3], (9, 9, 9, 9))
        self.refused(NoCounts, 2, words[:3], (9, 9, 10))


class IsFullRow(unittest.TestCase):
    often = Often(["ab", "cd"], [2, 1])

    def test_all_small_rows(self):
        for many in range(5):
            for row in itertools.product(range(-1, 3), repeat=many):
                wanted = sorted(row) == [0, 0, 1]
                self.assertIs(is_full_row(self.often, row), wanted)
                self.assertIs(is_full_row(self.often, list(row)), wanted)

    def test_wrong_kinds(self):
        for thing in ((0, 0, True), (False, 0, 1), (0, 0, 1, 1), (0, 1, 1), (0, 0, None), (0, 0, "1"), ((0, 0, 1),),
                      {0: 0, 1: 0, 2: 1}, "aab", (0, 0, 10 ** 5000), [[0], [0], [1]]):
            self.assertIs(is_full_row(self.often, thing), False)

    def test_whatever_it_is(self):
        for number, thing in enumerate(odd_things()):
            with self.subTest(number):
                self.assertIs(is_full_row(self.often, thing), False)
                self.assertIs(is_full_row(NO_PIECES, thing), isinstance(thing, (list, tuple)) and len(thing) == 0)
                whole = isinstance(thing, int) and not isinstance(thing, bool)
                self.assertIs(is_full_row(self.often, [0, thing, 0]), whole and thing == 1)


class RowText(unittest.TestCase):
    def test_a_piece_behind_itself(self):
        self.assertEqual(row_text(Often(["aba"], [3]), (0, 0, 0)), "abababa")
        self.assertEqual(row_text(Often(["abc"], [2]), [0, 0]), "abcabc")
        often = Often(["aba", "cab"], [2, 1])
        self.assertEqual(row_text(often, (0, 0, 1)), "ababacab")
        self.assertEqual(row_text(often, [0, 1, 0]), "abacaba")
        self.assertEqual(row_text(often, (1, 0, 0)), "cababa")

    def test_no_pieces(self):
        self.assertEqual(row_text(NO_PIECES, ()), "")
        self.assertEqual(row_text(NO_PIECES, []), "")

    def test_all_full_rows_of_small_ones(self):
        source = random.Random(131)
        for _ in range(40):
            often = some_often(source)
            for row in full_rows(often):
                text = row_text(often, row)
                self.assertEqual(text, text_by_hand(often, row))
                self.assertTrue(holds_often(text, often))

    def test_no_order(self):
        often = Often(["ab", "cd"], [2, 1])
        for number, thing in enumerate(odd_things() + [(0, 1), (0, 1, 1), (0, 0, True), (0, 0, 1, 1), (0, 0, 2)]):
            with self.subTest(number), self.assertRaises(NoOrder):
                row_text(often, thing)
        for thing in ([0], None, {}, ""):
            with self.assertRaises(NoOrder):
                row_text(NO_PIECES, thing)

    def test_what_is_handed_in_stays(self):
        often, row = Often(["aba", "cab"], [2, 1]), [0, 1, 0]
        for _ in range(2):
            self.assertEqual(row_text(often, row), "abacaba")
            row_text(Often(["xy"], [2]), [0, 0])
        self.assertEqual(row, [0, 1, 0])


class RowIn(unittest.TestCase):
    def check(self, often, text):
        row = row_in(often, text)
        self.assertTrue(is_plain(row))
        found = [(at, i) for i, piece in enumerate(often.pieces) for at in spots(text, piece)[:often.counts[i]]]
        self.assertEqual(row, tuple(i for at, i in sorted(found)))
        self.assertIs(is_full_row(often, row), True)
        told = row_text(often, row)
        self.assertTrue(len(told) < len(text) or told == text)
        return row

    def test_first_places(self):
        often = Often(["ab", "ba"], [2, 1])
        self.assertEqual(self.check(often, "abab"), (0, 1, 0))
        self.assertEqual(self.check(often, "bababa"), (1, 0, 0))
        self.assertEqual(self.check(often, "abxabxba"), (0, 0, 1))
        self.assertEqual(self.check(Often(["aa"], [3]), "xaaaaaa"), (0, 0, 0))
        self.assertEqual(row_in(NO_PIECES, ""), ())
        self.assertEqual(row_in(NO_PIECES, "abc"), ())

    def test_not_held(self):
        often = Often(["ab", "ba", "cc"], [2, 1, 3])
        for text, at in (("", 0), ("abcccc", 0), ("baxab", 0), ("abxab", 1), ("abab", 2), ("ababccc", 2)):
            with self.assertRaises(NotHeld) as caught:
                row_in(often, text)
            self.assertEqual(caught.exception.at, at)
        self.assertEqual(self.check(often, "ababcccc"), (0, 1, 0, 2, 2, 2))

    def test_no_longer_than_any_text(self):
        source = random.Random(132)
        texts = all_texts("ab", 9)
        held = 0
        for _ in range(25):
            often = some_often(source, "ab", 3, 4)
            for text in texts:
                if holds_often(text, often):
                    self.check(often, text)
                    held += 1
                else:
                    short = [len(spots(text, piece)) < count for piece, count in zip(often.pieces, often.counts)]
                    with self.assertRaises(NotHeld) as caught:
                        row_in(often, text)
                    self.assertEqual(caught.exception.at, short.index(True))
        self.assertGreater(held, 500)

    def test_great_texts(self):
        source = random.Random(133)
        text = "".join(source.choice("ab") for _ in range(4000))
        self.check(Often(["aba", "bbb", "aab"], [9, 9, 4]), text)
        self.check(Often(["a" * 3], [9]), "b" * 3000 + "a" * 1000)

    def test_asked_again(self):
        often = Often(["ab", "ba"], [2, 1])
        first = row_in(often, "ababa")
        row_in(Often(["a"], [1]), "a")
        self.assertEqual(row_in(often, "ababa"), first)


class OftenBound(unittest.TestCase):
    often = Often(["abc", "cab"], [2, 3])

    def none(self, paper, often=None):
        self.assertIsNone(often_bound(self.often if often is None else often, paper))

    def test_right_papers(self):
        self.assertEqual(self.often.laps, ((0, 1), (2, 0)))
        self.assertEqual(often_bound(self.often, ((1, 2), (0, 0))), 15 - 2 - 6)
        self.assertEqual(often_bound(self.often, [[1, 2], [0, 0]]), 7)
        self.assertEqual(often_bound(self.often, ([0, 0], (2, 1))), 15 - 4 - 3)
        self.assertEqual(often_bound(self.often, ((0, 1), (1, 1))), 15 - 2 - 6)
        self.assertEqual(often_bound(self.often, ((1, 2), (0, 10 ** 30))), 7 - 3 * 10 ** 30)

    def test_one_price_too_low(self):
        for paper in (((0, 2), (0, 0)), ((1, 1), (0, 0)), ((0, 0), (1, 1)), ((0, 0), (2, 0)), ((0, 0), (0, 0))):
            self.none(paper)

    def test_its_own_lap_counts(self):
        often = Often(["aaaa", "bab"], [2, 1])
        self.assertEqual(often.laps, ((3, 0), (0, 1)))
        self.none(((2, 1), (0, 0)), often)
        self.none(((3, 0), (0, 0)), often)
        self.none(((1, 1), (1, 0)), often)
        self.assertEqual(often_bound(often, ((3, 1), (0, 0))), 11 - 6 - 1)
        self.assertEqual(often_bound(often, ((1, 0), (2, 1))), 11 - 6 - 1)
        # Also of a piece that needs to stand once alone.
        self.none(((0,), (0,)), Often(["aa"], [1]))
        self.assertEqual(often_bound(Often(["aa"], [1]), ((0,), (1,))), 1)

    def test_no_pieces(self):
        for paper in (((), ()), [[], []], [(), []]):
            self.assertEqual(often_bound(NO_PIECES, paper), 0)
        for paper in ((), ((),), ((), (), ()), ((0,), ()), ((), (0,)), "", {}, None, 0):
            self.none(paper, NO_PIECES)

    def test_all_papers_of_small_ones(self):
        for often in (self.often, Often(["aba", "bab"], [1, 4]), Often(["ab", "ba"], [3, 1])):
            for row in itertools.product(range(-1, 3), repeat=4):
                gives, takes = row[:2], row[2:]
                pairs = itertools.product(range(2), repeat=2)
                right = min(row) >= 0 and all(gives[i] + takes[j] >= often.laps[i][j] for i, j in pairs)
                wanted = often.total - sum(often.counts[i] * (gives[i] + takes[i]) for i in range(2)) if right else None
                self.assertEqual(often_bound(often, (gives, takes)), wanted)

    def test_rows_of_the_wrong_form(self):
        for paper in (((2, 2), (2,)), ((2,), (2, 2)), ((2, 2, 2), (2, 2)), ((2, 2), (2, 2, 2)), ((2, 2),),
                      ((2, 2), (2, 2), (2, 2)), (2, 2, 2, 2), {0: (2, 2), 1: (2, 2)}, ("ab", (2, 2))):
            self.none(paper)
        for thing in (True, False, None, "1", (1,), [], -1, -(10 ** 5000)):
            for which, at in itertools.product(range(2), range(2)):
                paper = [[2, 2], [2, 2]]
                self.assertEqual(often_bound(self.often, paper), -5)
                paper[which][at] = thing
                self.none(paper)

    def test_whatever_it_is(self):
        for number, thing in enumerate(odd_things()):
            with self.subTest(number):
                self.none(thing)
                self.none(thing, NO_PIECES)
                if thing not in ([0, 0], (1, 1), (0, 2), (0, 10 ** 5000)) or isinstance(thing[1], bool):
                    self.none((thing, (2, 2)))
                    self.none(((2, 2), thing))
        self.none(((0, True), (2, 2)))
        self.assertEqual(often_bound(self.often, ((10 ** 5000, 2), (0, 0))), 15 - 2 * 10 ** 5000 - 6)

    def test_no_text_is_shorter(self):
        source = random.Random(134)
        for _ in range(60):
            often = some_often(source)
            numbers = range(len(often.pieces))
            least = min(len(row_text(often, row)) for row in full_rows(often))
            for _ in range(8):
                gives = [source.randrange(4) for _ in numbers]
                takes = [max([often.laps[i][j] - gives[i] for i in numbers] + [0]) for j in numbers]
                self.assertLessEqual(often_bound(often, (gives, takes)), least)

    def test_what_is_handed_in_stays(self):
        paper = [[1, 2], [0, 0]]
        for _ in range(2):
            self.assertEqual(often_bound(self.often, paper), 7)
            often_bound(NO_PIECES, ((), ()))
        self.assertEqual(paper, [[1, 2], [0, 0]])


class ShortestOften(unittest.TestCase):
    def test_no_pieces_and_one(self):
        self.assertEqual(shortest_often(NO_PIECES), "")
        self.assertEqual(shortest_often(Often(["ab"], [1])), "ab")
        self.assertEqual(shortest_often(Often(["ab"], [9])), "ab" * 9)
        self.assertEqual(shortest_often(Often(["aba"], [9])), "ab" * 9 + "a")
        self.assertEqual(shortest_often(Often(["a" * 60], [9])), "a" * 68)

    def test_known_texts(self):
        self.assertEqual(shortest_often(Often(["ba", "ab"], [1, 2])), "abab")
        self.assertEqual(shortest_often(Often(["ba", "ab"], [2, 2])), "ababa")
        self.assertEqual(shortest_often(Often(["b", "a"], [2, 3])), "aaabb")
        self.assertEqual(shortest_often(Often(["aba", "cab"], [2, 1])), "cababa")

    def test_against_all_full_rows(self):
        source = random.Random(135)
        for _ in range(120):
            often = some_often(source, source.choice(("ab", "abc")), 5, 7)
            told = shortest_often(often)
            self.assertIsInstance(told, str)
            self.assertEqual(told, ahead_of_all([text_by_hand(often, row) for row in full_rows(often)]))
            self.assertTrue(holds_often(told, often))

    def test_against_all_texts(self):
        source = random.Random(136)
        texts = all_texts("ab", 9)
        found = 0
        for _ in range(40):
            often = some_often(source, "ab", 3, 5)
            first = [text for text in texts if holds_often(text, often)][:1]
            if first:
                self.assertEqual(shortest_often(often), first[0])
                found += 1
        self.assertGreater(found, 20)

    def test_a_product_of_just_five_hundred(self):
        source = random.Random(137)
        with soon():
            for counts in ((4, 9, 9), (9, 4, 9), (1, 4, 4, 9), (3, 4, 4, 4)):
                for letters, signs in (("ab", 60), ("ab", 3), ("abcd", 2)):
                    often = Often(words_of_length(source, len(counts), letters, signs), counts)
                    told = shortest_often(often)
                    self.assertTrue(holds_often(told, often))
                    self.assertLessEqual(len(told), often.total)
            self.assertEqual(shortest_often(Often(["c", "a", "b"], [4, 9, 9])), "a" * 9 + "b" * 9 + "c" * 4)
            self.assertEqual(shortest_often(Often(["ab", "ba", "cc"], [9, 9, 4])), "ab" * 9 + "a" + "c" * 5)

    def test_eight_pieces(self):
        text = "abcdefghijklmnopqr"
        pieces = [text[at:at + 4] for at in range(0, 16, 2)]
        random.Random(138).shuffle(pieces)
        with soon():
            self.assertEqual(shortest_often(Often(pieces, [1] * 8)), text)

    def test_asked_again(self):
        pieces, counts = ["abc", "bca"], [2, 3]
        often = Often(pieces, counts)
        first = shortest_often(often)
        shortest_often(Often(["xy"], [4]))
        self.assertEqual((shortest_often(often), shortest_often(Often(tuple(pieces), tuple(counts)))), (first, first))
        self.assertEqual((pieces, counts), (["abc", "bca"], [2, 3]))


if __name__ == "__main__":
    unittest.main()
