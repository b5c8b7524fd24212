"""[1], [4], [5]: texts, whole numbers, and where pieces stand."""

import random
import unittest

from shortglue import signs
from shortglue.signs import first_place, is_text, is_whole, places, stands_at
from things import all_texts, odd_things


class Bounds(unittest.TestCase):
    def test_bounds_of_the_interface(self):
        self.assertEqual((signs.MOST_TEXT, signs.MOST_SIGNS, signs.MOST_PIECES), (4000, 60, 40))


class IsText(unittest.TestCase):
    def test_small_letters(self):
        for text in ("a", "z", "m", "az", "abcdefghijklmnopqrstuvwxyz"):
            self.assertIs(is_text(text), True)
            self.assertIs(is_text(text, 1, 60), True)

    def test_the_empty_text(self):
        self.assertIs(is_text(""), True)
        self.assertIs(is_text("", 0, 0), True)
        self.assertIs(is_text("", -5, 0), True)
        self.assertIs(is_text("", 1, 60), False)
        self.assertIs(is_text("", -5, -1), False)

    def test_lengths_at_the_bounds_and_beyond(self):
        for least, most in ((0, 0), (1, 60), (3, 3), (2, 5), (0, 4000), (-7, 2)):
            for many in range(0, most + 3):
                self.assertIs(is_text("q" * many, least, most), least <= many <= most)
        self.assertIs(is_text("ab", 3, 1), False)
        self.assertIs(is_text("ab", -(10 ** 40), 10 ** 40), True)
        self.assertIs(is_text("a" * 4001, 0, 5000), True)

    def test_without_bounds(self):
        self.assertIs(is_text("z" * 4000), True)
        self.assertIs(is_text("z" * 4001), False)
        self.assertIs(is_text("z" * 4000, 4000), True)
        self.assertIs(is_text("z" * 3999, 4000), False)
        self.assertIs(is_text("z" * 4001, 1), False)

    def test_one_wrong_sign(self):
        for wrong in ("\n", " ", "A", "Z", "0", "9", "`", "{", "?", "-", "\x00", "\u00e9", "\u00aa", "\u0430", "\ud800"):
            for many in (1, 4, 59):
                for at in sorted({0, many // 2, many - 1}):
                    text = "a" * at + wrong + "a" * (many - 1 - at)
                    self.assertIs(is_text(text), False)
                    self.assertIs(is_text(text, 1, 60), False)
            self.assertIs(is_text("a" * 3999 + wrong), False)

    def test_whatever_it_is(self):
        for number, thing in enumerate(odd_things()):
            with self.subTest(number):
                wanted = isinstance(thing, str) and len(thing) <= 4000 and all(s in "abcdefghijklmnopqrstuvwxyz" for s in thing)
                self.assertIs(is_text(thing), wanted)
                self.assertIs(is_text(thing, 1, 60), wanted and 1 <= len(thing) <= 60)


class IsWhole(unittest.TestCase):
    def test_bounds_and_one_beyond(self):
        for least, most in ((0, 0), (0, 1), (1, 9), (-5, -2), (-1, 4), (3, 2)):
            for number in range(-8, 12):
                self.assertIs(is_whole(number, least, most), least <= number <= most)

    def test_very_great_ones(self):
        great = 10 ** 5000
        self.assertIs(is_whole(great, -great, great), True)
        self.assertIs(is_whole(-great, -great, great), True)
        self.assertIs(is_whole(great + 1, -great, great), False)
        self.assertIs(is_whole(-great - 1, -great, great), False)
        self.assertIs(is_whole(great, 0, 9), False)
        self.assertIs(is_whole(0, great, great), False)

    def test_true_and_false_are_none(self):
        for thing in (True, False):
            self.assertIs(is_whole(thing, -1, 2), False)
            self.assertIs(is_whole(thing, 0, 1), False)

    def test_whatever_it_is(self):
        for number, thing in enumerate(odd_things()):
            with self.subTest(number):
                inside = isinstance(thing, int) and not isinstance(thing, bool)
                self.assertIs(is_whole(thing, -(10 ** 6000), 10 ** 6000), inside)
                self.assertIs(is_whole(thing, 0, 1), inside and thing in (0, 1))


def stands(text, piece, place):
    """As [5] tells it, sign by sign."""
    within = place >= 0 and place + len(piece) <= len(text)
    return within and all(text[place + at] == sign for at, sign in enumerate(piece))


class Standing(unittest.TestCase):
    def test_stands_at_small_texts(self):
        for text in all_texts("ab", 6):
            for piece in all_texts("ab", 3, 1):
                wanted = tuple(place for place in range(-9, 12) if stands(text, piece, place))
                self.assertEqual(tuple(place for place in range(-9, 12) if stands_at(text, piece, place)), wanted)
                self.assertEqual(places(text, piece), wanted)
                self.assertEqual(first_place(text, piece), wanted[0] if wanted else -1)

    def test_stands_at_edges(self):
        text = "abcabcab"
        for place, wanted in ((-8, False), (-5, False), (-3, False), (-1, False), (0, True), (3, True), (5, False),
                              (6, False), (8, False), (9, False), (10 ** 30, False), (-(10 ** 30), False)):
            self.assertIs(stands_at(text, "abc", place), wanted)
        for place, wanted in ((-2, False), (0, True), (6, True), (7, False), (8, False), (10 ** 5000, False)):
            self.assertIs(stands_at(text, "ab", place), wanted)
        self.assertIs(stands_at("aaa", "aa", 1), True)
        self.assertIs(stands_at("aaa", "aa", 2), False)
        self.assertIs(stands_at("aaa", "aa", -1), False)
        self.assertIs(stands_at("aaa", "aa", -2), False)

    def test_pieces_longer_than_the_text(self):
        self.assertIs(stands_at("ab", "abc", 0), False)
        self.assertIs(stands_at("", "a", 0), False)
        self.assertEqual(places("ab", "abc"), ())
        self.assertEqual(places("", "a"), ())
        self.assertEqual(first_place("", "a"), -1)

    def test_places(self):
        self.assertEqual(places("banana", "ana"), (1, 3))
        self.assertEqual(places("banana", "banana"), (0,))
        self.assertEqual(places("banana", "nab"), ())
        self.assertEqual(places("aaaa", "aa"), (0, 1, 2))
        self.assertEqual(places("abab", "ab"), (0, 2))
        self.assertEqual(first_place("banana", "ana"), 1)
        self.assertEqual(first_place("banana", "b"), 0)
        self.assertEqual(first_place("banana", "nab"), -1)

    def test_kinds(self):
        self.assertIs(type(places("banana", "a")), tuple)
        self.assertIs(type(places("banana", "x")), tuple)
        self.assertIs(type(first_place("banana", "a")), int)
        self.assertIs(type(stands_at("banana", "a", 1)), bool)
        self.assertIs(type(stands_at("banana", "a", 9)), bool)

    def test_long_texts(self):
        text = "a" * 4000
        self.assertEqual(places(text, "a" * 60), tuple(range(3941)))
        self.assertEqual(places(text, "a" * 4000), (0,))
        self.assertEqual(places(text, "a" * 59 + "b"), ())
        self.assertIs(stands_at(text, "a" * 60, 3940), True)
        self.assertIs(stands_at(text, "a" * 60, 3941), False)
        self.assertEqual(first_place("a" * 3999 + "b", "ab"), 3998)
        source = random.Random(5)
        for _ in range(20):
            text = "".join(source.choice("ab") for _ in range(4000))
            piece = text[700:700 + source.randrange(1, 14)]
            wanted = tuple(place for place in range(4000) if stands(text, piece, place))
            self.assertEqual(places(text, piece), wanted)
            self.assertEqual(first_place(text, piece), wanted[0])


if __name__ == "__main__":
    unittest.main()
