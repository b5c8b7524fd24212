"""[45]: rows that tell places and prices."""

import random
import unittest

from shortglue.errors import NoPaper, NotHeld
from shortglue.families import Family
from shortglue.holding import places_in
from shortglue.listing import listed, why_rows
from shortglue.prices import price_bound, prices_of
from things import as_lists, is_plain, odd_things, some_pieces

NO_WORDS = Family([])


class Listed(unittest.TestCase):
    def refused(self, at, text, pieces, places):
        with self.assertRaises(NotHeld) as caught:
            listed(text, pieces, places)
        self.assertEqual(caught.exception.at, at)

    def test_right_places(self):
        self.assertEqual(listed("cccab", ["ab"], [3]), ("ab at 3",))
        self.assertEqual(listed("banana", ["ana", "ana", "b"], (3, 1, 0)), ("ana at 3", "ana at 1", "b at 0"))
        self.assertEqual(listed("banana", (), ()), ())
        self.assertEqual(listed("", [], []), ())
        self.assertEqual(listed("b" * 3999 + "a", ["a"], [3999]), ("a at 3999",))

    def test_pieces_that_do_not_stand_there(self):
        self.refused(0, "banana", ["ana", "b"], [0, 0])
        self.refused(1, "banana", ["ana", "b", "x"], [1, 1, 0])
        self.refused(2, "banana", ("ana", "b", "a"), (1, 0, -1))
        self.refused(0, "banana", ["a"], [6])
        self.refused(0, "banana", ["ana"], [5])
        self.refused(0, "", ["a"], [0])
        self.refused(0, "banana", ["x", "y"], [None, None])
        self.refused(0, "banana", ["a"], [10 ** 5000])
        self.refused(0, "banana", ["a"], [-(10 ** 5000)])

    def test_places_whatever_they_are(self):
        for number, thing in enumerate(odd_things()):
            with self.subTest(number):
                if isinstance(thing, int) and not isinstance(thing, bool) and thing in (1,):
                    self.assertEqual(listed("ba", ["b", "a"], [0, thing]), ("b at 0", "a at 1"))
                else:
                    self.refused(1, "ba", ["b", "a"], [0, thing])
                    self.refused(1, "ba", ("b", "a", "x"), (0, thing, thing))
        self.refused(0, "ba", ["a"], [True])
        self.refused(0, "ba", ["b"], [False])

    def test_first_places(self):
        source = random.Random(191)
        for _ in range(100):
            text = "".join(source.choice("ab") for _ in range(30))
            pieces = [text[at:at + source.randrange(1, 6)] for at in source.sample(range(30), 5)]
            found = places_in(text, pieces)
            told = listed(text, pieces, list(found))
            self.assertEqual(told, tuple(piece + " at " + str(place) for piece, place in zip(pieces, found)))
            self.assertTrue(is_plain(told))

    def test_what_is_handed_in_stays(self):
        pieces, places = ["b", "a"], [0, 1]
        for _ in range(2):
            self.assertEqual(listed("ba", pieces, places), ("b at 0", "a at 1"))
            listed("x", ["x"], [0])
        self.assertEqual((pieces, places), (["b", "a"], [0, 1]))


class WhyRows(unittest.TestCase):
    family = Family(["abc", "bcd", "b", "cda"])

    def test_right_papers(self):
        self.assertEqual(why_rows(self.family, ((2, 2, 1), (0, 0, 0))), (
            "abc gives 2 takes 0", "bcd gives 2 takes 0", "cda gives 1 takes 0", "9 less 5 is 4"))
        self.assertEqual(why_rows(self.family, [[1, 0, 1], [0, 1, 2]]), (
            "abc gives 1 takes 0", "bcd gives 0 takes 1", "cda gives 1 takes 2", "9 less 5 is 4"))
        self.assertEqual(why_rows(Family(["ab"]), ([0], (0,))), ("ab gives 0 takes 0", "2 less 0 is 2"))

    def test_a_bound_below_nought(self):
        self.assertEqual(why_rows(self.family, ((2, 2, 2), (2, 2, 2)))[-1], "9 less 12 is -3")
        self.assertEqual(why_rows(Family(["ab"]), ([1], [3])), ("ab gives 1 takes 3", "2 less 4 is -2"))

    def test_no_words(self):
        for paper in (((), ()), [[], []]):
            self.assertEqual(why_rows(NO_WORDS, paper), ("0 less 0 is 0",))

    def test_prices_of_any_size(self):
        family = Family(["ab"])
        for many in (30, 63, 64, 65, 127, 128, 129, 4299, 4300, 4301, 5000):
            ten = "1" + "0" * many
            self.assertEqual(why_rows(family, ((10 ** many,), (0,))), (
                f"ab gives {ten} takes 0", f"2 less {ten} is -" + "9" * (many - 1) + "8"))
            nines = "9" * many
            self.assertEqual(why_rows(family, ((0,), (10 ** many - 1,)))[0], f"ab gives 0 takes {nines}")
        source = random.Random(192)
        for _ in range(100):
            number = source.randrange(10 ** source.randrange(1, 400))
            self.assertEqual(why_rows(family, ((number,), (2,))), (
                f"ab gives {number} takes 2", f"2 less {number + 2} is {-number}"))

    def test_no_paper(self):
        for paper in (((1, 2, 1), (0, 0, 0)), ((2, 2, True), (0, 0, 0)), ((2, 2), (0, 0)), ((2, 2, 1),), None, {}, "",
                      ((2, 2, 1), (0, 0, -1))):
            with self.assertRaises(NoPaper):
                why_rows(self.family, paper)
        for number, thing in enumerate(odd_things()):
            with self.subTest(number):
                for family in (self.family, NO_WORDS):
                    with self.assertRaises(NoPaper):
                        why_rows(family, thing)
                for paper in ((thing, (2, 2, 2)), [(2, 2, 2), thing]):
                    with self.assertRaises(NoPaper):
                        why_rows(self.family, paper)

    def test_some_families(self):
        source = random.Random(193)
        for many in list(range(8)) + [40]:
            family = Family(some_pieces(source, many, "ab", 9))
            paper = prices_of(family)
            told = why_rows(family, as_lists(paper))
            rows = [f"{word} gives {give} takes {take}" for word, give, take in zip(family.words, *paper)]
            prices, bound = sum(paper[0]) + sum(paper[1]), price_bound(family, paper)
            self.assertEqual(told, tuple(rows + [f"{family.total} less {prices} is {bound}"]))
            self.assertTrue(is_plain(told))

    def test_what_is_handed_in_stays(self):
        paper = [[2, 2, 1], [0, 0, 0]]
        first = why_rows(self.family, paper)
        why_rows(NO_WORDS, ((), ()))
        self.assertEqual(why_rows(self.family, paper), first)
        self.assertEqual(paper, [[2, 2, 1], [0, 0, 0]])


if __name__ == "__main__":
    unittest.main()
