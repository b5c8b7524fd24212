"""[12], [13]: orders and the texts that they tell."""

import itertools
import random
import unittest

from shortglue.errors import NoOrder
from shortglue.families import Family
from shortglue.laps import lap
from shortglue.orders import is_order, saved, starts_of, text_of
from things import is_plain, odd_things, some_pieces


class IsOrder(unittest.TestCase):
    def test_orders(self):
        for many in range(5):
            for order in itertools.permutations(range(many)):
                self.assertIs(is_order(order, many), True)
                self.assertIs(is_order(list(order), many), True)
                self.assertIs(is_order(order, many + 1), False)
                self.assertIs(is_order(order, many - 1), False)
        self.assertIs(is_order(list(range(40))[::-1], 40), True)
        self.assertIs(is_order(list(range(1, 41)), 40), False)

    def test_all_small_rows(self):
        for many in range(4):
            for size in range(5):
                for row in itertools.product(range(-1, 4), repeat=size):
                    self.assertIs(is_order(row, many), sorted(row) == list(range(many)))

    def test_true_and_false_are_no_numbers(self):
        self.assertIs(is_order([False], 1), False)
        self.assertIs(is_order([0, True], 2), False)
        self.assertIs(is_order((False, 1), 2), False)
        self.assertIs(is_order((2, True, 0), 3), False)

    def test_whatever_it_is(self):
        for number, thing in enumerate(odd_things()):
            with self.subTest(number):
                self.assertIs(is_order(thing, 0), isinstance(thing, (list, tuple)) and len(thing) == 0)
                for many in (1, 2, 3, 40):
                    self.assertIs(is_order(thing, many), False)
                self.assertIs(is_order([0, thing], 2), thing == 1 and thing is not True)
                self.assertIs(is_order((thing, 1), 2), thing == 0 and thing is not False)

    def test_what_is_handed_in_stays(self):
        order = [2, 0, 1]
        self.assertIs(is_order(order, 3), True)
        self.assertEqual(order, [2, 0, 1])


class Texts(unittest.TestCase):
    def check(self, family, order):
        text = text_of(family, order)
        starts = starts_of(family, order)
        laps = [lap(family.words[one], family.words[other]) for one, other in zip(order, order[1:])]
        wanted, begins = "", {}
        for at, number in enumerate(order):
            k = laps[at - 1] if at else 0
            begins[number] = len(wanted) - k
            wanted += family.words[number][k:]
        self.assertEqual(text, wanted)
        self.assertEqual(starts, tuple(begins[number] for number in range(family.many())))
        self.assertEqual(saved(family, order), sum(laps))
        self.assertEqual(len(text), family.total - saved(family, order))
        for number, word in enumerate(family.words):
            self.assertEqual(text[starts[number]:starts[number] + len(word)], word)
        self.assertTrue(is_plain(starts))

    def test_several_orders(self):
        family = Family(["abc", "b", "bcd", "cda"])
        for order, text, starts, saves in (
                ((0, 1, 2), "abcda", (0, 1, 2), 4), ((2, 1, 0), "cdabcdabc", (6, 3, 0), 0),
                ([2, 0, 1], "cdabcd", (2, 3, 0), 3), ([0, 2, 1], "abcdabcd", (0, 5, 2), 1)):
            self.assertEqual(text_of(family, order), text)
            self.assertEqual(starts_of(family, order), starts)
            self.assertEqual(saved(family, order), saves)
            self.check(family, order)

    def test_starts_are_where_words_are_glued(self):
        family = Family(["abxab", "bxabx", "xa"])
        self.assertEqual(text_of(family, (0, 1)), "abxabx")
        family = Family(["xbay", "ayc", "cxb"])
        self.assertEqual(starts_of(family, [2, 0, 1]), (1, 3, 0))
        family = Family(["bc", "ab", "ca"])
        self.assertEqual((text_of(family, (1, 2, 0)), starts_of(family, (1, 2, 0))), ("abcabc", (4, 0, 2)))

    def test_one_word_and_none(self):
        family = Family(["b", "abab"])
        for order in ((0,), [0]):
            self.assertEqual((text_of(family, order), starts_of(family, order), saved(family, order)), ("abab", (0,), 0))
        family = Family([])
        for order in ((), []):
            self.assertEqual((text_of(family, order), starts_of(family, order), saved(family, order)), ("", (), 0))

    def test_all_orders_of_small_families(self):
        source = random.Random(13)
        for _ in range(60):
            family = Family(some_pieces(source, 4, "ab", 6))
            for order in itertools.permutations(range(family.many())):
                self.check(family, order)
                self.check(family, list(order))

    def test_forty_words(self):
        source = random.Random(14)
        family = Family(["".join(source.choice("ab") for _ in range(60)) for _ in range(40)])
        self.assertEqual(family.many(), 40)
        order = list(range(40))
        source.shuffle(order)
        self.check(family, order)

    def test_no_order(self):
        family = Family(["abc", "xyz", "c"])
        for number, thing in enumerate(odd_things() + [(0,), (0, 1, 2), [1, True], [False, 1], (0, 0), (1, 2)]):
            for deed in (text_of, starts_of, saved):
                with self.subTest((number, deed.__name__)), self.assertRaises(NoOrder):
                    deed(family, thing)

    def test_no_order_of_no_words_and_of_one(self):
        for deed in (text_of, starts_of, saved):
            for thing in ({}, "", None, (0,), [0], 0, False):
                with self.assertRaises(NoOrder):
                    deed(Family(()), thing)
            for thing in ((), [], [False], "a", (1,), {0: 0}, None):
                with self.assertRaises(NoOrder):
                    deed(Family(("a",)), thing)

    def test_asked_again(self):
        family, order = Family(["abc", "bcd", "cda"]), [2, 0, 1]
        answers = [(text_of(family, order), starts_of(family, order), saved(family, order)) for _ in range(3)]
        self.assertEqual(answers, [("cdabcd", (2, 3, 0), 3)] * 3)
        self.assertEqual(order, [2, 0, 1])
        self.assertEqual(family.words, ("abc", "bcd", "cda"))


if __name__ == "__main__":
    unittest.main()
