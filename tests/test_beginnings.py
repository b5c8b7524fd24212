"""[9]: the beginnings of pieces."""

import random
import unittest

from shortglue.beginnings import Beginnings
from shortglue.laps import lap
from things import all_texts, is_plain, some_pieces


def numbered_by_hand(words):
    """All beginnings in the order in which [9] numbers them."""
    found = [""]
    for word in words:
        for k in range(1, len(word) + 1):
            if word[:k] not in found:
                found.append(word[:k])
    return found


class Keeping(unittest.TestCase):
    def check(self, words):
        kept = Beginnings(words)
        wanted = numbered_by_hand(words)
        self.assertEqual(kept.many(), len(wanted))
        self.assertEqual([kept.number_of(text) for text in wanted], list(range(len(wanted))))
        return kept, wanted

    def test_no_pieces(self):
        for words in ([], ()):
            kept = Beginnings(words)
            self.assertEqual((kept.many(), kept.number_of(""), kept.number_of("a")), (1, 0, None))
            self.assertEqual((kept.longest_end(""), kept.longest_end("abc"), kept.laps_of("abc")), (0, 0, ()))

    def test_one_piece(self):
        kept, _ = self.check(["abc"])
        self.assertEqual([kept.number_of(text) for text in ("", "a", "ab", "abc")], [0, 1, 2, 3])
        for text in ("b", "bc", "abcd", "abd", "ba", "c"):
            self.assertIs(kept.number_of(text), None)

    def test_several_pieces(self):
        kept, _ = self.check(["ba", "abc", "abd", "b"])
        self.assertEqual(kept.many(), 7)
        self.assertEqual([kept.number_of(text) for text in ("b", "ba", "a", "ab", "abc", "abd")], [1, 2, 3, 4, 5, 6])

    def test_pieces_told_twice_and_pieces_that_begin_one_another(self):
        kept, _ = self.check(["ab", "ab", "a", "abc", "ab", "abcd", "abc"])
        self.assertEqual(kept.many(), 5)
        self.assertEqual(len(kept.laps_of("xab")), 7)

    def test_many_small_rows(self):
        source = random.Random(9)
        for _ in range(150):
            words = some_pieces(source, source.randrange(0, 6))
            kept, wanted = self.check(words)
            for text in all_texts("ab", 5) + words + [word + "a" for word in words] + ["b" + word for word in words]:
                self.assertEqual(kept.number_of(text), wanted.index(text) if text in wanted else None)
                ends = [len(begin) for begin in wanted if text.endswith(begin)]
                self.assertEqual(kept.longest_end(text), max(ends))
                if text:
                    self.assertEqual(kept.laps_of(text), tuple(lap(text, word) for word in words))

    def test_forty(self):
        source = random.Random(10)
        words = some_pieces(source, 38, "ab", 60) + ["a" * 60, "b" * 60]
        kept, wanted = self.check(words)
        self.assertEqual([kept.longest_end(word) for word in words], [len(word) for word in words])
        text = "".join(words)[:4000]
        self.assertEqual(kept.longest_end(text), max(len(begin) for begin in wanted if text.endswith(begin)))
        self.assertEqual(kept.laps_of(text), tuple(lap(text, word) for word in words))


class Asking(unittest.TestCase):
    def test_longest_end(self):
        kept = Beginnings(("abc", "cab"))
        for text, wanted in (("", 0), ("a", 1), ("b", 0), ("xb", 0), ("xab", 2), ("abc", 3), ("xabc", 3), ("ca", 2),
                             ("bca", 2), ("abcab", 3), ("xx", 0), ("abcx", 0), ("abcc", 1)):
            self.assertEqual(kept.longest_end(text), wanted)

    def test_laps_of(self):
        kept = Beginnings(["abc", "cab", "abc"])
        self.assertEqual(kept.laps_of("abc"), (0, 1, 0))
        self.assertEqual(kept.laps_of("cab"), (2, 0, 2))
        self.assertEqual(kept.laps_of("a"), (0, 0, 0))
        self.assertEqual(kept.laps_of("xxxxxca"), (1, 2, 1))

    def test_a_list_changed_behind_the_making(self):
        words = ["ab", "cd"]
        kept = Beginnings(words)
        words.append("ef")
        words[0] = "zz"
        self.assertEqual(kept.many(), 5)
        self.assertEqual((kept.number_of("ab"), kept.number_of("z"), kept.number_of("e")), (2, None, None))
        self.assertEqual((kept.longest_end("xab"), kept.longest_end("xz")), (2, 0))
        self.assertEqual(kept.laps_of("xa"), (1, 0))

    def test_what_is_handed_in_stays(self):
        words = ["ab", "abc", "ab"]
        Beginnings(words).laps_of("ab")
        self.assertEqual(words, ["ab", "abc", "ab"])

    def test_two_objects_side_by_side(self):
        one, other = Beginnings(["ab"]), Beginnings(["xyz", "xa"])
        self.assertEqual((one.many(), other.many()), (3, 5))
        self.assertEqual((one.number_of("x"), other.number_of("ab")), (None, None))
        self.assertEqual((one.number_of("a"), other.number_of("xa")), (1, 4))
        self.assertEqual((one.longest_end("xa"), other.longest_end("xa")), (1, 2))

    def test_asking_changes_nothing(self):
        kept = Beginnings(["ab", "bc"])

        def answers():
            return (kept.many(), kept.number_of("q"), kept.number_of("bc"), kept.longest_end("zzb"), kept.laps_of("ab"))

        first = answers()
        self.assertEqual(first, (5, None, 4, 1, (0, 1)))
        self.assertEqual(answers(), first)
        self.assertTrue(is_plain(kept.laps_of("ab")))


if __name__ == "__main__":
    unittest.main()
