"""[6]: borders and periods."""

import random
import unittest

from shortglue.borders import all_borders, borders, period
from things import all_texts


def borders_by_hand(text):
    """All borders of a text, falling, by the words of [6]."""
    return tuple(k for k in range(len(text) - 1, 0, -1) if text[:k] == text[len(text) - k:])


def period_by_hand(text):
    """The least p so that each sign is the one that stands p places behind it."""
    fits = (p for p in range(1, len(text) + 1) if all(text[at] == text[at + p] for at in range(len(text) - p)))
    return next(fits, 0)


class Borders(unittest.TestCase):
    def check(self, text):
        greatest = [max(borders_by_hand(text[:many]), default=0) for many in range(1, len(text) + 1)]
        self.assertEqual(borders(text), tuple(greatest))
        self.check_whole(text)

    def check_whole(self, text):
        self.assertEqual(all_borders(text), borders_by_hand(text))
        self.assertEqual(period(text), period_by_hand(text))

    def test_the_empty_text(self):
        self.assertEqual((borders(""), all_borders(""), period("")), ((), (), 0))

    def test_one_sign(self):
        self.assertEqual((borders("a"), all_borders("a"), period("a")), ((0,), (), 1))

    def test_one_letter_repeated(self):
        self.assertEqual(borders("aaaa"), (0, 1, 2, 3))
        self.assertEqual(all_borders("aaaa"), (3, 2, 1))
        self.assertEqual(period("aaaa"), 1)

    def test_a_short_text_repeated_and_cut(self):
        self.assertEqual(borders("abcabcab"), (0, 0, 0, 1, 2, 3, 4, 5))
        self.assertEqual(all_borders("abcabcab"), (5, 2))
        self.assertEqual(period("abcabcab"), 3)

    def test_without_a_border(self):
        self.assertEqual(borders("aab"), (0, 1, 0))
        self.assertEqual(all_borders("aab"), ())
        self.assertEqual(period("aab"), 3)

    def test_a_border_that_falls_back(self):
        self.assertEqual(borders("aabaaab"), (0, 1, 0, 1, 2, 2, 3))
        self.assertEqual(borders("abacabab"), (0, 0, 1, 0, 1, 2, 3, 2))

    def test_all_small_texts(self):
        for text in all_texts("ab", 9) + all_texts("abc", 6):
            self.check(text)

    def test_long_texts(self):
        self.assertEqual(borders("a" * 4000), tuple(range(4000)))
        self.assertEqual(all_borders("a" * 4000), tuple(range(3999, 0, -1)))
        self.assertEqual(period("a" * 4000), 1)
        text = ("abaab" * 800)[:3998]
        self.assertEqual(period(text), 5)
        self.assertEqual(all_borders(text), borders_by_hand(text))
        text = "a" * 3999 + "b"
        self.assertEqual((borders(text)[3998:], all_borders(text), period(text)), ((3998, 0), (), 4000))
        source = random.Random(6)
        for many in (60, 200, 300):
            self.check("".join(source.choice("ab") for _ in range(many)))

    def test_kinds(self):
        for text in ("", "a", "abab"):
            self.assertIs(type(borders(text)), tuple)
            self.assertIs(type(all_borders(text)), tuple)
            self.assertIs(type(period(text)), int)


if __name__ == "__main__":
    unittest.main()
