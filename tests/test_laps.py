"""[7], [8]: laps and gluing."""

import random
import unittest

from shortglue.borders import all_borders
from shortglue.errors import NoLap
from shortglue.laps import all_laps, glued, lap
from things import all_texts


def laps_by_hand(one, other):
    """All k below both lengths by which two texts lap, 0 too."""
    return [k for k in range(min(len(one), len(other))) if one[len(one) - k:] == other[:k]]


class Lap(unittest.TestCase):
    def test_the_greatest_counts(self):
        self.assertEqual(lap("xabab", "ababy"), 4)
        self.assertEqual(lap("xaba", "abay"), 3)
        self.assertEqual(lap("abc", "cab"), 1)
        self.assertEqual(lap("cab", "abc"), 2)
        self.assertEqual(lap("abc", "xyz"), 0)

    def test_on_itself(self):
        for text in all_texts("ab", 8, 1):
            self.assertEqual(lap(text, text), max(all_borders(text), default=0))

    def test_below_both_lengths(self):
        self.assertEqual(lap("xab", "ab"), 0)
        self.assertEqual(lap("ab", "abx"), 0)
        self.assertEqual(lap("xaa", "aa"), 1)
        self.assertEqual(lap("aa", "aax"), 1)
        self.assertEqual(lap("aaaa", "aa"), 1)
        self.assertEqual(lap("aa", "aaaa"), 1)
        self.assertEqual(lap("a", "a"), 0)
        self.assertEqual(lap("ab", "b"), 0)

    def test_all_small_texts(self):
        texts = all_texts("ab", 5, 1)
        for one in texts:
            for other in texts:
                self.assertEqual(lap(one, other), max(laps_by_hand(one, other)))

    def test_long_texts(self):
        self.assertEqual(lap("a" * 4000, "a" * 4000), 3999)
        self.assertEqual(lap("a" * 4000, "a" * 3000), 2999)
        self.assertEqual(lap("a" * 10, "a" * 4000), 9)
        self.assertEqual(lap("a" * 3999 + "b", "a" * 4000), 0)
        self.assertEqual(lap("b" + "a" * 3999, "a" * 3999 + "b"), 3999)


class AllLaps(unittest.TestCase):
    def test_no_words_and_one(self):
        self.assertEqual(all_laps([]), ())
        self.assertEqual(all_laps(()), ())
        self.assertEqual(all_laps(["abab"]), ((2,),))

    def test_several(self):
        self.assertEqual(all_laps(["abc", "bca", "cab"]), ((0, 2, 1), (1, 0, 2), (2, 1, 0)))
        self.assertEqual(all_laps(("ab", "ba", "ab")), ((0, 1, 0), (1, 0, 1), (0, 1, 0)))
        self.assertEqual(all_laps(("ab", "bcc")), ((0, 1), (0, 0)))

    def test_forty(self):
        source = random.Random(7)
        words = ["".join(source.choice("ab") for _ in range(source.randrange(1, 61))) for _ in range(39)] + ["a" * 60]
        kept = list(words)
        wanted = tuple(tuple(max(laps_by_hand(one, other)) for other in words) for one in words)
        self.assertEqual(all_laps(words), wanted)
        self.assertEqual(all_laps(tuple(words)), wanted)
        self.assertEqual(words, kept)

    def test_kinds(self):
        table = all_laps(["ab", "ba"])
        self.assertIs(type(table), tuple)
        self.assertEqual([type(row) for row in table], [tuple, tuple])


class Glued(unittest.TestCase):
    def test_plain(self):
        self.assertEqual(glued("abc", "cde", 1), "abcde")
        self.assertEqual(glued("abc", "cde", 0), "abccde")
        self.assertEqual(glued("aaa", "aab", 2), "aaab")
        self.assertEqual(glued("aaa", "aab", 1), "aaaab")

    def test_every_k(self):
        texts = all_texts("ab", 4, 1)
        for one in texts:
            for other in texts:
                fits = laps_by_hand(one, other)
                for k in range(-6, 7):
                    if k in fits:
                        self.assertEqual(glued(one, other, k), one + other[k:])
                    else:
                        with self.assertRaises(NoLap) as caught:
                            glued(one, other, k)
                        self.assertEqual(caught.exception.k, k)

    def test_no_lap(self):
        for one, other, k in (("aaa", "aaa", -1), ("aaa", "aaa", 3), ("aaaa", "aa", 2), ("aa", "aaaa", 2),
                              ("aaa", "aaa", 4), ("abc", "cab", 2), ("abc", "abc", 1), ("a", "a", 1),
                              ("abc", "cde", 10 ** 5000), ("abc", "cde", -(10 ** 5000))):
            with self.assertRaises(NoLap) as caught:
                glued(one, other, k)
            self.assertTrue(caught.exception.k == k)

    def test_long_texts(self):
        self.assertEqual(glued("a" * 2000, "a" * 2000, 1999), "a" * 2001)
        self.assertEqual(glued("a" * 2000, "a" * 2000, 0), "a" * 4000)


if __name__ == "__main__":
    unittest.main()
