"""[39]: gapped pieces and where they stand."""

import random
import unittest

from shortglue.gapped import fits_at, gapped_places, is_gapped
from things import all_texts, is_plain, odd_things, soon


def fits_by_hand(text, gapped, place):
    """Sign by sign, with each place asked by itself."""
    signs = {at: sign for at, sign in enumerate(text)}
    return all(place + at in signs and own in ("?", signs[place + at]) for at, own in enumerate(gapped))


class IsGapped(unittest.TestCase):
    def test_lengths(self):
        for sign in ("a", "?", "z"):
            for many, wanted in ((0, False), (1, True), (2, True), (59, True), (60, True), (61, False), (4000, False)):
                self.assertIs(is_gapped(sign * many), wanted)
        self.assertIs(is_gapped("a" + "?" * 58 + "b"), True)
        self.assertIs(is_gapped("a" + "?" * 59 + "b"), False)

    def test_signs(self):
        for thing in ("a?b", "?a", "a?", "??", "abc", "z?z?z"):
            self.assertIs(is_gapped(thing), True)
        for thing in ("A", "a?B", "a b", " ", "a\n", "\n", "a?\n", "a*", "a.", "0", "?1", "`", "{", "a-b", "\u00e9",
                      "a\u00e9?", "\uff1f", "\x00", "a\x00?", "!?", "@"):
            self.assertIs(is_gapped(thing), False)

    def test_whatever_it_is(self):
        for number, thing in enumerate(odd_things()):
            with self.subTest(number):
                self.assertIs(is_gapped(thing), isinstance(thing, str) and thing in ("a", "b", "ab"))
                self.assertIs(is_gapped([thing]), False)
                self.assertIs(is_gapped({"?": thing}), False)
        for thing in (["?"], ("?",), {"?": "?"}, ["a", "?"], [["?"]]):
            self.assertIs(is_gapped(thing), False)


class FitsAt(unittest.TestCase):
    def test_places(self):
        for place, wanted in ((-(10 ** 5000), False), (-6, False), (-3, False), (-1, False), (0, False), (1, True),
                              (2, False), (3, True), (4, False), (5, False), (6, False), (10 ** 5000, False)):
            self.assertIs(fits_at("banana", "a?a", place), wanted)
        for place in range(-7, 9):
            self.assertIs(fits_at("banana", "???", place), 0 <= place <= 3)
            self.assertIs(fits_at("banana", "?", place), 0 <= place <= 5)
            self.assertIs(fits_at("banana", "??????", place), place == 0)
            self.assertIs(fits_at("banana", "???????", place), False)
            self.assertIs(fits_at("", "?", place), False)

    def test_letters(self):
        self.assertIs(fits_at("abc", "a?c", 0), True)
        self.assertIs(fits_at("abc", "a?b", 0), False)
        self.assertIs(fits_at("abc", "?b?", 0), True)
        self.assertIs(fits_at("abc", "b?", 1), True)
        self.assertIs(fits_at("abc", "c?", 2), False)
        self.assertIs(fits_at("abc", "?c", 1), True)

    def test_small_texts(self):
        pieces = all_texts("ab?", 3, 1)
        for text in all_texts("ab", 4):
            for gapped in pieces:
                for place in range(-4, 6):
                    self.assertIs(fits_at(text, gapped, place), fits_by_hand(text, gapped, place))


class GappedPlaces(unittest.TestCase):
    def test_known_places(self):
        self.assertEqual(gapped_places("banana", "a?a"), (1, 3))
        self.assertEqual(gapped_places("banana", "ana"), (1, 3))
        self.assertEqual(gapped_places("banana", "?a"), (0, 2, 4))
        self.assertEqual(gapped_places("banana", "??"), (0, 1, 2, 3, 4))
        self.assertEqual(gapped_places("banana", "n?b"), ())
        self.assertEqual(gapped_places("banana", "b????a"), (0,))

    def test_pieces_longer_than_the_text(self):
        self.assertEqual(gapped_places("", "?"), ())
        self.assertEqual(gapped_places("a", "a?"), ())
        self.assertEqual(gapped_places("banana", "?" * 7), ())
        self.assertEqual(gapped_places("banana", "banana?"), ())
        self.assertEqual(gapped_places("banana", "?" * 60), ())

    def test_small_texts(self):
        pieces = all_texts("ab?", 4, 1)
        for text in all_texts("ab", 5):
            for gapped in pieces:
                told = gapped_places(text, gapped)
                self.assertTrue(is_plain(told))
                self.assertEqual(told, tuple(at for at in range(len(text)) if fits_by_hand(text, gapped, at)))

    def test_great_texts(self):
        source = random.Random(141)
        text = "".join(source.choice("ab") for _ in range(4000))
        with soon():
            self.assertEqual(gapped_places(text, "?" * 60), tuple(range(3941)))
            self.assertEqual(gapped_places("a" * 4000, "a?" * 30), tuple(range(3941)))
            self.assertEqual(gapped_places("a" * 3999 + "b", "?" * 59 + "b"), (3940,))
            self.assertEqual(gapped_places(text, "a?b"), tuple(
                at for at in range(3998) if text[at] == "a" and text[at + 2] == "b"))

    def test_asked_again(self):
        first = gapped_places("banana", "a?a")
        gapped_places("xyz", "?")
        self.assertEqual(gapped_places("banana", "a?a"), first)


if __name__ == "__main__":
    unittest.main()
