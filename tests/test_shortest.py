"""[27]: the text that is ahead of all others that hold all words."""

import itertools
import random
import unittest

from shortglue.errors import TooGreat
from shortglue.families import Family
from shortglue.holding import holds_all
from shortglue.orders import text_of
from shortglue.shortest import is_ahead, shortest
from things import ahead_of_all, all_texts, some_pieces, soon, words_of_length


class IsAhead(unittest.TestCase):
    def test_by_length(self):
        self.assertIs(is_ahead("z", "aa"), True)
        self.assertIs(is_ahead("aa", "z"), False)
        self.assertIs(is_ahead("", "a"), True)
        self.assertIs(is_ahead("a", ""), False)
        self.assertIs(is_ahead("a" * 3999, "a" * 4000), True)

    def test_in_order_of_signs(self):
        self.assertIs(is_ahead("ab", "ba"), True)
        self.assertIs(is_ahead("ba", "ab"), False)
        self.assertIs(is_ahead("abca", "abcb"), True)
        self.assertIs(is_ahead("abcb", "abca"), False)

    def test_of_itself(self):
        for text in ("", "a", "ab", "z" * 4000):
            self.assertIs(is_ahead(text, text), False)

    def test_small_texts(self):
        texts = all_texts("abc", 3)
        for at, one in enumerate(texts):
            for to, other in enumerate(texts):
                self.assertIs(is_ahead(one, other), at < to)


class Shortest(unittest.TestCase):
    def test_no_words_and_one(self):
        self.assertEqual(shortest(Family([])), "")
        self.assertEqual(shortest(Family(["abab", "ba", "abab"])), "abab")

    def test_known_texts(self):
        self.assertEqual(shortest(Family(["cda", "bc", "abc", "bcd"])), "abcda")
        self.assertEqual(shortest(Family(["ba", "ab"])), "aba")
        self.assertEqual(shortest(Family(["c", "b", "a"])), "abc")
        self.assertEqual(shortest(Family(["cabab", "babab", "babad"])), "cabababad")
        self.assertEqual(shortest(Family(["caa", "aad", "aaaa"])), "caaaad")
        self.assertEqual(shortest(Family(["aab", "aba", "baa", "abb", "bab", "bba", "aaa", "bbb"])), "aaababbbaa")

    def test_against_all_orders(self):
        source = random.Random(71)
        for _ in range(120):
            family = Family(some_pieces(source, source.randrange(1, 8), source.choice(("ab", "abc")), 6))
            if family.many() > 6:
                continue
            texts = [text_of(family, order) for order in itertools.permutations(range(family.many()))]
            told = shortest(family)
            self.assertIsInstance(told, str)
            self.assertEqual(told, ahead_of_all(texts))
            self.assertIs(holds_all(told, family.pieces), True)

    def test_against_all_texts(self):
        source = random.Random(72)
        texts = all_texts("ab", 9)
        found = 0
        for _ in range(40):
            family = Family(some_pieces(source, 3, "ab", 4))
            first = [text for text in texts if holds_all(text, family.words)][:1]
            if first:
                self.assertEqual(shortest(family), first[0])
                found += 1
        self.assertGreater(found, 20)

    def test_twelve_words(self):
        source = random.Random(73)
        with soon():
            for letters, signs in (("ab", 60), ("ab", 5), ("abcdefgh", 2)):
                family = Family(words_of_length(source, 12, letters, signs))
                self.assertEqual(family.many(), 12)
                told = shortest(family)
                self.assertIs(holds_all(told, family.words), True)
                self.assertLessEqual(len(told), family.total)
        with soon():
            self.assertEqual(shortest(Family(list("lkjihgfedcba"))), "abcdefghijkl")
            text = "abcdefghijklmnopqrstuvwxyz"
            pieces = [text[at:at + 6] for at in range(0, 21)]
            source.shuffle(pieces)
            family = Family(pieces[:12])
            first = min(text.index(piece) for piece in family.words)
            last = max(text.index(piece) for piece in family.words) + 6
            self.assertLessEqual(len(shortest(family)), last - first)

    def test_windows_of_one_text(self):
        text = "abcdefghijklmnopqrstuvwxyz"
        pieces = [text[at:at + 4] for at in range(0, 23, 2)]
        self.assertEqual(len(pieces), 12)
        random.Random(74).shuffle(pieces)
        self.assertEqual(shortest(Family(pieces)), text)

    def test_thirteen_words(self):
        source = random.Random(75)
        pieces = words_of_length(source, 13, "ab", 6)
        for many in (pieces, pieces + ["a"], words_of_length(source, 40, "ab", 8)):
            with soon(), self.assertRaises(TooGreat) as caught:
                shortest(Family(many))
            self.assertEqual(caught.exception.most, 12)
        self.assertTrue(shortest(Family(pieces[:12] + ["a", "b", "ab"])))

    def test_asked_again(self):
        pieces = ["abc", "bca", "cab", "ca"]
        family = Family(pieces)
        first = shortest(family)
        shortest(Family(["xy", "yz"]))
        self.assertEqual((shortest(family), shortest(Family(tuple(pieces)))), (first, first))
        self.assertEqual(pieces, ["abc", "bca", "cab", "ca"])
        self.assertEqual(family.words, ("abc", "bca", "cab"))


if __name__ == "__main__":
    unittest.main()
