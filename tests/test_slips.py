"""[42], [43]: laps with slips, and reads put together."""

import itertools
import random
import unittest

from shortglue.errors import NoPiece, NoWords, TooMany
from shortglue.laps import lap
from shortglue.slips import many_slips, put_right, slip_lap
from things import all_texts, is_plain, odd_things, some_pieces, soon


def differing(one, other):
    return [at for at in range(len(one)) if one[at] != other[at]]


def lap_by_hand(one, other, most):
    """The greatest k of all that will do, all looked at."""
    right = [0]
    for k in range(1, min(len(one), len(other))):
        if len(differing(one[-k:], other[:k])) <= most:
            right.append(k)
    return max(right)


def put_by_hand(reads, most):
    """As [43] says it, the text as a list of signs."""
    signs, starts = list(reads[0]), [0]
    for at in range(1, len(reads)):
        for _ in range(lap_by_hand(reads[at - 1], reads[at], most)):
            signs.pop()
        starts.append(len(signs))
        signs.extend(reads[at])
    slips = [tuple(at for at in range(len(read)) if signs[start + at] != read[at]) for read, start in zip(reads, starts)]
    return "".join(signs), tuple(starts), tuple(slips)


class ManySlips(unittest.TestCase):
    def test_known_texts(self):
        for one, other, wanted in (("", "", 0), ("a", "a", 0), ("a", "b", 1), ("abc", "abc", 0), ("abc", "abd", 1),
                                   ("abc", "xbc", 1), ("abc", "cba", 2), ("abc", "xyz", 3),
                                   ("a" * 4000, "b" * 4000, 4000), ("a" * 4000, "a" * 3999 + "b", 1)):
            self.assertEqual(many_slips(one, other), wanted)
            self.assertEqual(many_slips(other, one), wanted)

    def test_small_texts(self):
        for many in range(5):
            for one, other in itertools.product(all_texts("ab", many, many), repeat=2):
                told = many_slips(one, other)
                self.assertEqual(told, len(differing(one, other)))
                self.assertTrue(is_plain(told))


class SlipLap(unittest.TestCase):
    def test_known_laps(self):
        for one, other, most, wanted in (("abc", "bcd", 0, 2), ("abc", "bxd", 0, 0), ("abc", "bxd", 1, 2),
                                         ("abcd", "xbyz", 1, 1), ("abcd", "xbyz", 2, 2), ("abcd", "xbyz", 3, 3),
                                         ("abcd", "cxef", 1, 2), ("aab", "abb", 0, 2), ("aab", "bab", 0, 1)):
            self.assertEqual(slip_lap(one, other, most), wanted, (one, other, most))

    def test_no_slips_is_the_lap(self):
        for one, other in itertools.product(all_texts("ab", 4, 1), repeat=2):
            self.assertEqual(slip_lap(one, other, 0), lap(one, other))

    def test_as_many_slips_as_signs_and_more(self):
        for most in (3, 4, 100, 10 ** 5000):
            self.assertEqual(slip_lap("abcd", "wxyz", most), 3)
            self.assertEqual(slip_lap("abcd", "wx", most), 1)
            self.assertEqual(slip_lap("abc", "wxyz", most), 2)
        self.assertEqual(slip_lap("abcd", "wxyz", 2), 2)

    def test_a_text_on_itself(self):
        self.assertEqual(slip_lap("aaaa", "aaaa", 0), 3)
        self.assertEqual(slip_lap("abab", "abab", 0), 2)
        self.assertEqual(slip_lap("abab", "abab", 2), 2)
        self.assertEqual(slip_lap("abab", "abab", 3), 3)
        self.assertEqual(slip_lap("abcd", "abcd", 1), 1)

    def test_texts_of_one_sign(self):
        for one, other in (("a", "a"), ("a", "b"), ("a", "abc"), ("abc", "c"), ("abc", "a")):
            for most in (0, 1, 5):
                self.assertEqual(slip_lap(one, other, most), 0)

    def test_small_texts(self):
        texts = all_texts("ab", 5, 1)
        for one, other in itertools.product(texts, texts):
            for most in range(4):
                told = slip_lap(one, other, most)
                self.assertEqual(told, lap_by_hand(one, other, most))
                self.assertTrue(is_plain(told))

    def test_great_texts(self):
        with soon():
            self.assertEqual(slip_lap("a" * 4000, "a" * 4000, 0), 3999)
            self.assertEqual(slip_lap("a" * 4000, "b" * 4000, 0), 0)
            self.assertEqual(slip_lap("a" * 4000, "b" * 4000, 7), 7)
            self.assertEqual(slip_lap("a" * 4000, "a" * 2000 + "b" * 2000, 3), 2003)


class PutRight(unittest.TestCase):
    def check(self, reads, most):
        told = put_right(reads, most)
        self.assertEqual(told, put_by_hand(reads, most))
        self.assertTrue(is_plain(told))
        text, starts, slips = told
        self.assertEqual((len(starts), len(slips)), (len(reads), len(reads)))
        self.assertEqual(slips[-1], ())
        for read, start, row in zip(reads, starts, slips):
            self.assertEqual(row, tuple(differing(read, text[start:start + len(read)])))
        return told

    def test_one_read(self):
        for kind in (list, tuple):
            for most in (0, 1, 9):
                self.assertEqual(self.check(kind(["abc"]), most), ("abc", (0,), ((),)))
        self.assertEqual(self.check(["a"], 0), ("a", (0,), ((),)))

    def test_several_without_slips(self):
        self.assertEqual(self.check(["abc", "bcd", "cde"], 0), ("abcde", (0, 1, 2), ((), (), ())))
        self.assertEqual(self.check(("abc", "xyz"), 0), ("abcxyz", (0, 3), ((), ())))
        self.assertEqual(self.check(["ab", "ab", "ab"], 0), ("ababab", (0, 2, 4), ((), (), ())))
        self.assertEqual(self.check(["a", "a"], 5), ("aa", (0, 1), ((), ())))

    def test_several_with_slips(self):
        self.assertEqual(self.check(["abcx", "bcde", "dxfg"], 1), ("abcdxfg", (0, 1, 3), ((3,), (3,), ())))
        self.assertEqual(self.check(("abxx", "bcde"), 2), ("abcde", (0, 1), ((2, 3), ())))
        self.assertEqual(self.check(["aaaa", "aaba", "bbcc"], 1), ("aaabbcc", (0, 1, 3), ((3,), (3,), ())))
        # The second read agrees with the first one, and the third one differs from both.
        self.assertEqual(self.check(["abcd", "bcde", "cxef"], 1), ("abcxef", (0, 1, 2), ((3,), (2,), ())))

    def test_small_reads(self):
        for reads in itertools.product(all_texts("ab", 3, 1), repeat=3):
            for most in range(3):
                self.check(list(reads), most)

    def test_some_reads(self):
        source = random.Random(171)
        for _ in range(300):
            self.check(some_pieces(source, source.randrange(1, 9), "abc", 9), source.randrange(4))

    def test_forty_reads(self):
        source = random.Random(172)
        text = "".join(source.choice("abcd") for _ in range(900))
        reads = []
        for at in range(0, 800, 20):
            read = list(text[at:at + 60])
            read[-1] = source.choice("abcd")
            read[-4] = source.choice("abcd")
            reads.append("".join(read))
        with soon():
            self.assertEqual(self.check(reads, 6)[1], tuple(range(0, 800, 20)))
            self.check(tuple(reads), 0)
            self.check(["a" * 60] * 40, 60)

    def test_no_reads(self):
        for reads in ([], ()):
            for most in (0, 3):
                with self.assertRaises(NoWords):
                    put_right(reads, most)

    def test_too_many(self):
        put_right(["a"] * 40, 0)
        for reads in (["a"] * 41, [None] * 41, tuple(["a"] * 40 + [""]), ["A"] + ["a"] * 40):
            with self.assertRaises(TooMany) as caught:
                put_right(reads, 1)
            self.assertEqual(caught.exception.most, 40)

    def test_no_piece(self):
        for reads, at in (([""], 0), (["a", "B", ""], 1), (("ab", "cd", "a?"), 2), (["a" * 61, "a"], 0), ([True], 0)):
            with self.assertRaises(NoPiece) as caught:
                put_right(reads, 0)
            self.assertEqual(caught.exception.at, at)
        for number, thing in enumerate(odd_things()):
            if isinstance(thing, str) and thing in ("a", "b", "ab"):
                continue
            with self.subTest(number), self.assertRaises(NoPiece) as caught:
                put_right(["ab", thing, thing], 1)
            self.assertEqual(caught.exception.at, 1)

    def test_what_is_handed_in_stays(self):
        reads = ["abcx", "bcde"]
        for _ in range(2):
            self.assertEqual(put_right(reads, 1), ("abcde", (0, 1), ((3,), ())))
            put_right(["xy"], 0)
        self.assertEqual(reads, ["abcx", "bcde"])


if __name__ == "__main__":
    unittest.main()
