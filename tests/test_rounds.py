"""[31], [32], [33]: round texts."""

import itertools
import random
import unittest

from shortglue.errors import NoOrder, NotHeld, NoWords, TooGreat
from shortglue.families import Family
from shortglue.rounds import is_round_held, round_of, round_order, stands_round
from shortglue.roundshort import shortest_round
from shortglue.shortest import shortest
from things import ahead_of_all, all_texts, is_plain, odd_things, some_pieces, soon, words_of_length

NO_WORDS = Family([])


def stands_by_hand(ring, piece, place):
    """Sign by sign, as a round text is read."""
    return 0 <= place < len(ring) and all(ring[(place + at) % len(ring)] == sign for at, sign in enumerate(piece))


def round_places(ring, word):
    return [place for place in range(len(ring)) if stands_by_hand(ring, word, place)]


def holds_round(ring, words):
    return all(round_places(ring, word) for word in words)


class StandsRound(unittest.TestCase):
    def test_places(self):
        for place, wanted in ((-4, False), (-3, False), (-1, False), (0, False), (1, False), (2, True), (3, False),
                              (5, False), (8, False), (10 ** 5000, False), (-(10 ** 5000), False)):
            self.assertIs(stands_round("abc", "cab", place), wanted)
        self.assertIs(stands_round("abc", "abc", 0), True)
        self.assertIs(stands_round("abc", "abc", 3), False)
        self.assertIs(stands_round("abc", "abc", -3), False)
        self.assertIs(stands_round("abc", "c", 2), True)
        self.assertIs(stands_round("abc", "c", -1), False)

    def test_pieces_longer_than_the_round_text(self):
        self.assertIs(stands_round("a", "aaaaa", 0), True)
        self.assertIs(stands_round("a", "aaaab", 0), False)
        self.assertIs(stands_round("ab", "babab", 1), True)
        self.assertIs(stands_round("ab", "babab", 0), False)
        self.assertIs(stands_round("abc", "bcabcabca", 1), True)
        self.assertIs(stands_round("abc", "bcabcabcc", 1), False)
        self.assertIs(stands_round("abc", "abcabcabcabcd", 0), False)

    def test_small_texts(self):
        pieces = all_texts("ab", 5, 1)
        for ring in all_texts("ab", 4, 1):
            for piece in pieces:
                for place in range(-5, 6):
                    self.assertIs(stands_round(ring, piece, place), stands_by_hand(ring, piece, place))

    def test_great_texts(self):
        ring = "b" * 3990 + "a" * 10
        self.assertIs(stands_round(ring, "a" * 10 + "b" * 50, 3990), True)
        self.assertIs(stands_round(ring, "a" * 10 + "b" * 50, 3989), False)
        self.assertIs(stands_round(ring, "ab", 3999), True)
        self.assertIs(stands_round(ring, "ab", 4000), False)


class IsRoundHeld(unittest.TestCase):
    def test_right_and_wrong_places(self):
        pieces = ["ca", "abca", "b"]
        for places in itertools.product(range(-3, 5), repeat=3):
            wanted = places == (2, 0, 1)
            self.assertIs(is_round_held("abc", pieces, places), wanted)
            self.assertIs(is_round_held("abc", tuple(pieces), list(places)), wanted)
        self.assertIs(is_round_held("aab", ["a", "ba", "a"], [1, 2, 0]), True)
        self.assertIs(is_round_held("aab", ["a", "ba", "a"], [1, 1, 0]), False)
        self.assertIs(is_round_held("aab", ["a", "ba", "a"], [1, 2, 3]), False)

    def test_as_many_places_as_pieces(self):
        self.assertIs(is_round_held("ab", [], []), True)
        self.assertIs(is_round_held("ab", (), ()), True)
        self.assertIs(is_round_held("ab", [], [0]), False)
        self.assertIs(is_round_held("ab", ["a"], []), False)
        self.assertIs(is_round_held("ab", ["a"], [0, 0]), False)
        self.assertIs(is_round_held("ab", ["a", "b"], [0]), False)

    def test_places_whatever_they_are(self):
        for number, thing in enumerate(odd_things()):
            with self.subTest(number):
                self.assertIs(is_round_held("aab", [], thing), isinstance(thing, (list, tuple)) and len(thing) == 0)
                self.assertIs(is_round_held("aab", ["aa", "ab", "b"], thing), False)
                numbers = isinstance(thing, int) and not isinstance(thing, bool)
                self.assertIs(is_round_held("aab", ["b", "a"], [2, thing]), numbers and thing in (0, 1))
        self.assertIs(is_round_held("aab", ["a"], [True]), False)
        self.assertIs(is_round_held("aab", ["a"], [False]), False)
        self.assertIs(is_round_held("aab", ["a", "a"], {0: 0, 1: 1}), False)
        self.assertIs(is_round_held("aab", ["a", "a"], None), False)

    def test_what_is_handed_in_stays(self):
        pieces, places = ["ca", "b"], [2, 1]
        for _ in range(2):
            self.assertIs(is_round_held("abc", pieces, places), True)
        self.assertEqual((pieces, places), (["ca", "b"], [2, 1]))


class RoundOf(unittest.TestCase):
    def test_several_orders(self):
        family = Family(["abc", "bcd", "b", "cda"])
        self.assertEqual(family.laps, ((0, 2, 1), (0, 0, 2), (1, 0, 0)))
        self.assertEqual(round_of(family, (0, 1, 2)), "abcd")
        self.assertEqual(round_of(family, [1, 2, 0]), "bcda")
        self.assertEqual(round_of(family, (2, 0, 1)), "cdab")
        self.assertEqual(round_of(family, [0, 2, 1]), "abcdabcd")
        self.assertEqual(round_of(family, (1, 0, 2)), "bcdabcda")

    def test_one_word(self):
        self.assertEqual(round_of(Family(["abc", "b"]), [0]), "abc")
        self.assertEqual(round_of(Family(["ababa"]), (0,)), "ab")
        self.assertEqual(round_of(Family(["aaaa"]), (0,)), "a")
        self.assertEqual(round_of(Family(["abca"]), (0,)), "abc")

    def test_holds_all_words(self):
        source = random.Random(91)
        for _ in range(60):
            family = Family(some_pieces(source, 5, "ab", 6))
            for order in itertools.permutations(range(family.many())):
                ring = round_of(family, list(order))
                laps = sum(family.laps[order[at - 1]][order[at]] for at in range(len(order)))
                self.assertEqual(len(ring), family.total - laps)
                self.assertTrue(holds_round(ring, family.pieces))
                self.assertIs(stands_round(ring, family.words[order[0]], 0), True)

    def test_no_words(self):
        for order in ((), [], (0,), None, "", {}, [[]]):
            with self.assertRaises(NoWords):
                round_of(NO_WORDS, order)

    def test_no_order(self):
        family = Family(["abc", "xyz", "c"])
        for number, thing in enumerate(odd_things() + [(0,), (0, 1, 2), [1, True], [False, 1], [1, 1], [-1, 0]]):
            with self.subTest(number):
                with self.assertRaises(NoOrder):
                    round_of(family, thing)
                with self.assertRaises(NoWords):
                    round_of(NO_WORDS, thing)

    def test_what_is_handed_in_stays(self):
        family, order = Family(["abc", "bcd", "cda"]), [1, 2, 0]
        for _ in range(2):
            self.assertEqual(round_of(family, order), "bcda")
            round_of(Family(["xy"]), [0])
        self.assertEqual(order, [1, 2, 0])


class RoundOrder(unittest.TestCase):
    def test_by_places_less_that_of_word_nought(self):
        family = Family(["abc", "bcd", "b", "cda"])
        for ring in ("abcd", "bcda", "cdab", "dabc"):
            self.assertEqual(round_order(family, ring), (0, 1, 2))
        self.assertEqual(round_order(family, "abcdabcd"), (0, 1, 2))
        self.assertEqual(round_order(family, "cdaxbcdxabcx"), (0, 2, 1))
        self.assertEqual(round_order(family, "xabcxcdaxbcd"), (0, 2, 1))
        self.assertEqual(round_order(family, "axbcdxabcxcd"), (0, 2, 1))

    def test_the_first_place_counts(self):
        family = Family(["ab", "cd", "ef"])
        self.assertEqual(round_order(family, "cdabefcd"), (0, 2, 1))
        self.assertEqual(round_order(family, "abefcdab"), (0, 2, 1))
        self.assertEqual(round_order(family, "dabefcdc"), (0, 2, 1))
        self.assertEqual(round_order(family, "efabefcd"), (0, 1, 2))

    def test_one_word(self):
        for ring in ("ab", "ba", "xabx", "bxxxa", "abab"):
            self.assertEqual(round_order(Family(["b", "ab"]), ring), (0,))
        self.assertEqual(round_order(Family(["aaaa"]), "a"), (0,))

    def test_no_words(self):
        for ring in ("a", "abc"):
            with self.assertRaises(NoWords):
                round_order(NO_WORDS, ring)

    def test_not_held_tells_the_pieces_index(self):
        family = Family(["b", "abc", "c", "cab", "bca"])
        self.assertEqual(family.kept, (1, 3, 4))
        for ring, at in (("a", 1), ("abcx", 3), ("xcab", 1), ("abcxcabx", 4), ("cabx", 1), ("abxbcaxcab", 1)):
            with self.assertRaises(NotHeld) as caught:
                round_order(family, ring)
            self.assertEqual(caught.exception.at, at)

    def test_all_small_round_texts(self):
        source = random.Random(92)
        rings = all_texts("ab", 8, 1)
        held = 0
        for _ in range(15):
            family = Family(some_pieces(source, 3, "ab", 4))
            for ring in rings:
                found = [round_places(ring, word)[:1] for word in family.words]
                if [] in found:
                    with self.assertRaises(NotHeld) as caught:
                        round_order(family, ring)
                    self.assertEqual(caught.exception.at, family.kept[found.index([])])
                    continue
                order = round_order(family, ring)
                self.assertTrue(is_plain(order))
                turns = [(places[0] - found[0][0]) % len(ring) for places in found]
                self.assertEqual(order, tuple(sorted(range(family.many()), key=lambda number: turns[number])))
                self.assertLessEqual(len(round_of(family, order)), len(ring))
                held += 1
        self.assertGreater(held, 200)

    def test_great_round_texts(self):
        source = random.Random(93)
        text = "".join(source.choice("ab") for _ in range(4000))
        twice = text + text
        family = Family([twice[at:at + 60] for at in range(0, 4000, 100)])
        order = round_order(family, text)
        self.assertEqual(order, tuple(range(40)))
        self.assertLessEqual(len(round_of(family, order)), 4000)


class ShortestRound(unittest.TestCase):
    def check(self, family):
        """What [33] says of every family of one word at least and of no more than twelve."""
        ring = shortest_round(family)
        self.assertIsInstance(ring, str)
        self.assertTrue(holds_round(ring, family.pieces))
        self.assertIs(stands_round(ring, family.words[0], 0), True)
        order = round_order(family, ring)
        joins = [(order[at - 1], order[at]) for at in range(len(order))]
        least = min(family.laps[i][j] for i, j in joins)
        straight = len(shortest(family))
        self.assertLessEqual(len(ring), straight)
        self.assertLessEqual(straight, len(ring) + least)
        return ring

    def test_known_round_texts(self):
        self.assertEqual(self.check(Family(["abc", "bcd", "cda"])), "abcd")
        self.assertEqual(self.check(Family(["cda", "abc", "bcd"])), "cdab")
        self.assertEqual(self.check(Family(["c", "b", "a"])), "cab")
        self.assertEqual(self.check(Family(["b", "c", "a"])), "bac")
        self.assertEqual(self.check(Family(["aab", "aba", "baa", "abb", "bab", "bba", "aaa", "bbb"])), "aababbba")

    def test_one_word(self):
        for word, ring in (("abc", "abc"), ("ababa", "ab"), ("aaaa", "a"), ("abca", "abc"), ("a", "a")):
            family = Family([word])
            self.assertEqual(self.check(family), ring)
            self.assertEqual(len(shortest(family)) - len(ring), family.laps[0][0])

    def test_against_all_orders(self):
        source = random.Random(94)
        for _ in range(150):
            family = Family(some_pieces(source, source.randrange(1, 7), source.choice(("ab", "abc")), 6))
            orders = [(0,) + rest for rest in itertools.permutations(range(1, family.many()))]
            self.assertEqual(self.check(family), ahead_of_all([round_of(family, order) for order in orders]))

    def test_against_all_round_texts(self):
        source = random.Random(95)
        rings = all_texts("ab", 8, 1)
        found = 0
        for _ in range(40):
            family = Family(some_pieces(source, 3, "ab", 4))
            holding = [ring for ring in rings if holds_round(ring, family.words)]
            begun = [ring for ring in holding if stands_by_hand(ring, family.words[0], 0)]
            if holding:
                self.assertEqual(self.check(family), begun[0])
                self.assertEqual(len(begun[0]), len(holding[0]))
                found += 1
        self.assertGreater(found, 20)

    def test_no_words(self):
        with self.assertRaises(NoWords):
            shortest_round(NO_WORDS)

    def test_twelve_words(self):
        source = random.Random(96)
        with soon():
            for letters, signs in (("ab", 60), ("ab", 5), ("abcdefgh", 2)):
                family = Family(words_of_length(source, 12, letters, signs))
                self.assertEqual(family.many(), 12)
                self.check(family)
            self.assertEqual(self.check(Family(list("lkjihgfedcba"))), "labcdefghijk")
            text = "abcdefghijklmnopqrstuvwx"
            pieces = [(text + text)[at:at + 5] for at in range(0, 24, 2)]
            source.shuffle(pieces)
            start = text.index(pieces[0][0])
            self.assertEqual(self.check(Family(pieces)), text[start:] + text[:start])

    def test_thirteen_words(self):
        source = random.Random(97)
        pieces = words_of_length(source, 13, "ab", 6)
        for many in (pieces, pieces + ["a"], words_of_length(source, 40, "ab", 8)):
            with soon(), self.assertRaises(TooGreat) as caught:
                shortest_round(Family(many))
            self.assertEqual(caught.exception.most, 12)
        self.check(Family(pieces[:12] + ["a", "b", "ab"]))

    def test_asked_again(self):
        pieces = ["abc", "bca", "cab", "ca"]
        family = Family(pieces)
        first = shortest_round(family)
        shortest_round(Family(["xy", "yz"]))
        self.assertEqual((shortest_round(family), shortest_round(Family(tuple(pieces)))), (first, first))
        self.assertEqual(pieces, ["abc", "bca", "cab", "ca"])


if __name__ == "__main__":
    unittest.main()
