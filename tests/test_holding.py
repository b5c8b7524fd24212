"""[14], [15], [16]: texts that hold pieces, and settled orders."""

import itertools
import random
import unittest

from shortglue.errors import NoOrder, NotHeld
from shortglue.families import Family
from shortglue.holding import holds_all, is_holding, order_in, places_in, settled
from shortglue.orders import is_order, text_of
from things import all_texts, is_plain, odd_things, some_pieces


class Holding(unittest.TestCase):
    def test_holds_all(self):
        self.assertIs(holds_all("banana", ["ana", "ban", "nana", "a"]), True)
        self.assertIs(holds_all("banana", ("ana", "banana", "ana")), True)
        self.assertIs(holds_all("banana", ["ana", "nab"]), False)
        self.assertIs(holds_all("banana", ["nab", "ana"]), False)
        self.assertIs(holds_all("banana", ["bananas"]), False)
        self.assertIs(holds_all("banana", []), True)
        self.assertIs(holds_all("", ()), True)
        self.assertIs(holds_all("", ["a"]), False)

    def test_is_holding(self):
        pieces = ["ana", "a", "ban"]
        for first, second, third in itertools.product(range(-7, 8), repeat=3):
            wanted = first in (1, 3) and second in (1, 3, 5) and third == 0
            self.assertIs(is_holding("banana", pieces, [first, second, third]), wanted)
        self.assertIs(is_holding("banana", tuple(pieces), (3, 5, 0)), True)
        self.assertIs(is_holding("banana", ["ana", "nab"], [1, 2]), False)
        self.assertIs(is_holding("banana", ["a"], [10 ** 5000]), False)
        self.assertIs(is_holding("banana", ["a"], [-1]), False)

    def test_as_many_places_as_pieces(self):
        self.assertIs(is_holding("banana", ["a", "b"], [1]), False)
        self.assertIs(is_holding("banana", ["a", "b"], [1, 0, 0]), False)
        self.assertIs(is_holding("banana", ["a", "b"], []), False)
        self.assertIs(is_holding("banana", [], []), True)
        self.assertIs(is_holding("banana", [], ()), True)
        self.assertIs(is_holding("banana", [], [0]), False)

    def test_places_whatever_they_are(self):
        for number, thing in enumerate(odd_things()):
            with self.subTest(number):
                self.assertIs(is_holding("aab", [], thing), isinstance(thing, (list, tuple)) and len(thing) == 0)
                self.assertIs(is_holding("aab", ["aa", "ab", "b"], thing), False)
                numbers = isinstance(thing, int) and not isinstance(thing, bool)
                self.assertIs(is_holding("aab", ["b", "a"], [2, thing]), numbers and thing in (0, 1))
        self.assertIs(is_holding("aab", ["a"], [True]), False)
        self.assertIs(is_holding("aab", ["a"], [False]), False)
        self.assertIs(is_holding("aab", ["a", "a"], {0: 0, 1: 1}), False)
        self.assertIs(is_holding("aab", ["a", "a"], "aa"), False)

    def test_places_in(self):
        self.assertEqual(places_in("banana", ["ana", "a", "ban", "nana"]), (1, 1, 0, 2))
        self.assertEqual(places_in("banana", ("a", "a")), (1, 1))
        self.assertEqual(places_in("banana", []), ())
        self.assertEqual(places_in("", ()), ())
        for pieces, at in ((["nab"], 0), (["a", "nab", "x"], 1), (("a", "b", "c", "d"), 2), (["bananas", "x"], 0)):
            with self.assertRaises(NotHeld) as caught:
                places_in("banana", pieces)
            self.assertEqual(caught.exception.at, at)

    def test_small_texts(self):
        source = random.Random(15)
        for text in all_texts("ab", 7):
            pieces = some_pieces(source, 3, "ab", 3)
            missing = [at for at, piece in enumerate(pieces) if piece not in text]
            self.assertIs(holds_all(text, pieces), not missing)
            if missing:
                with self.assertRaises(NotHeld) as caught:
                    places_in(text, pieces)
                self.assertEqual(caught.exception.at, missing[0])
            else:
                found = places_in(text, pieces)
                self.assertEqual(found, tuple(text.index(piece) for piece in pieces))
                self.assertTrue(is_plain(found))
                self.assertIs(is_holding(text, pieces, found), True)

    def test_forty_pieces_and_a_long_text(self):
        pieces = ["a" * many for many in range(1, 41)]
        text = "b" * 3960 + "a" * 40
        self.assertEqual(places_in(text, pieces), (3960,) * 40)
        self.assertIs(is_holding(text, pieces, [4000 - many for many in range(1, 41)]), True)
        self.assertIs(is_holding(text, pieces, [4000 - many for many in range(1, 40)] + [3961]), False)

    def test_what_is_handed_in_stays(self):
        pieces, given = ["a", "ba"], [1, 0]
        for _ in range(2):
            self.assertIs(holds_all("ba", pieces), True)
            self.assertIs(is_holding("ba", pieces, given), True)
            self.assertEqual(places_in("ba", pieces), (1, 0))
        self.assertEqual((pieces, given), (["a", "ba"], [1, 0]))


class OrderIn(unittest.TestCase):
    def test_by_first_places(self):
        family = Family(["abc", "b", "cab", "bca"])
        self.assertEqual(family.kept, (0, 2, 3))
        self.assertEqual(order_in(family, "abcab"), (0, 2, 1))
        self.assertEqual(order_in(family, "xcabcabc"), (1, 0, 2))
        self.assertEqual(order_in(family, "bcaxxcabxabcabc"), (2, 1, 0))

    def test_no_words_and_one(self):
        self.assertEqual(order_in(Family([]), ""), ())
        self.assertEqual(order_in(Family([]), "abc"), ())
        self.assertEqual(order_in(Family(["ab", "b"]), "xxab"), (0,))

    def test_not_held_tells_the_pieces_index(self):
        family = Family(["b", "abc", "c", "cab", "bca"])
        self.assertEqual(family.kept, (1, 3, 4))
        for text, at in (("", 1), ("cab", 1), ("abc", 3), ("abca", 3), ("abccab", 4), ("bca", 1)):
            with self.assertRaises(NotHeld) as caught:
                order_in(family, text)
            self.assertEqual(caught.exception.at, at)

    def check_no_longer(self, family, text):
        order = order_in(family, text)
        self.assertTrue(is_order(order, family.many()))
        self.assertTrue(is_plain(order))
        first = [text.index(family.words[number]) for number in order]
        self.assertEqual(first, sorted(first))
        told = text_of(family, order)
        self.assertTrue(len(told) < len(text) or told == text)

    def test_no_longer_than_any_text(self):
        source = random.Random(16)
        texts = all_texts("ab", 9)
        for _ in range(12):
            family = Family(some_pieces(source, 3, "ab", 4))
            for text in texts:
                if holds_all(text, family.words):
                    self.check_no_longer(family, text)

    def test_very_long_texts(self):
        source = random.Random(17)
        text = "".join(source.choice("ab") for _ in range(9000))
        family = Family([text[at:at + 50] for at in range(8000, 8900, 30)])
        self.check_no_longer(family, text)
        self.check_no_longer(family, text[8000:8940])


class Settled(unittest.TestCase):
    def check(self, family, order):
        end = settled(family, order)
        self.assertTrue(is_order(end, family.many()))
        self.assertTrue(is_plain(end))
        self.assertEqual(settled(family, end), end)
        self.assertEqual(order_in(family, text_of(family, end)), end)
        self.assertLessEqual(len(text_of(family, end)), len(text_of(family, order)))
        last = tuple(order)
        while order_in(family, text_of(family, last)) != last:
            last = order_in(family, text_of(family, last))
        self.assertEqual(end, last)
        return end

    def test_an_order_that_changes(self):
        family = Family(["bc", "ab", "ca"])
        self.assertEqual(self.check(family, [1, 2, 0]), (1, 0, 2))
        self.assertEqual(self.check(family, (1, 0, 2)), (1, 0, 2))

    def test_no_words_and_one(self):
        self.assertEqual(settled(Family([]), []), ())
        self.assertEqual(settled(Family(["ab"]), [0]), (0,))

    def test_all_orders_of_small_families(self):
        source = random.Random(18)
        changed = 0
        for _ in range(60):
            family = Family(some_pieces(source, 5, "ab", 5))
            for order in itertools.permutations(range(family.many())):
                changed += self.check(family, list(order)) != order
        self.assertGreater(changed, 20)

    def test_one_that_changes_several_times(self):
        family = Family(["aab", "bab", "aba", "baaaa", "bbb"])
        self.assertEqual(order_in(family, text_of(family, (3, 2, 0, 4, 1))), (3, 0, 2, 4, 1))
        self.assertEqual(self.check(family, (3, 2, 0, 4, 1)), (3, 0, 2, 1, 4))
        family = Family(["baab", "abaa", "ca", "bbab", "baacbc"])
        self.assertEqual(order_in(family, text_of(family, [4, 1, 2, 3, 0])), (4, 2, 1, 3, 0))
        self.assertEqual(self.check(family, [4, 1, 2, 3, 0]), (4, 2, 1, 0, 3))

    def test_forty_words(self):
        source = random.Random(20)
        family = Family(["".join(source.choice("ab") for _ in range(8)) for _ in range(40)])
        order = list(range(family.many()))
        for _ in range(5):
            source.shuffle(order)
            self.check(family, order)

    def test_no_order(self):
        family = Family(["abc", "xyz", "c"])
        for number, thing in enumerate(odd_things() + [(0,), (0, 1, 2), [1, True], [False, 1]]):
            with self.subTest(number), self.assertRaises(NoOrder):
                settled(family, thing)

    def test_what_is_handed_in_stays(self):
        family, order = Family(["bc", "ab", "ca"]), [1, 2, 0]
        for _ in range(2):
            self.assertEqual(settled(family, order), (1, 0, 2))
        self.assertEqual(order, [1, 2, 0])


if __name__ == "__main__":
    unittest.main()
