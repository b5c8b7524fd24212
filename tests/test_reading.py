"""[44]: pieces read from a text of lines, and shown as such."""

import random
import unittest

from shortglue.errors import NoLine, TooMany
from shortglue.reading import read_pieces, show_pieces
from things import is_plain, some_pieces


class ReadPieces(unittest.TestCase):
    def refused(self, text, at):
        with self.assertRaises(NoLine) as caught:
            read_pieces(text)
        self.assertEqual(caught.exception.at, at)

    def test_lines(self):
        for text, wanted in (("ab\ncd\n", ("ab", "cd")), ("ab\ncd", ("ab", "cd")), ("ab", ("ab",)), ("ab\n", ("ab",)),
                             ("b\na\nb\n", ("b", "a", "b")), ("\nab", ("ab",)), ("ab\n\n\ncd\n\n", ("ab", "cd"))):
            told = read_pieces(text)
            self.assertEqual(told, wanted)
            self.assertTrue(is_plain(told))

    def test_blanks(self):
        self.assertEqual(read_pieces("  ab  \ncd \n ef"), ("ab", "cd", "ef"))
        self.assertEqual(read_pieces("   \nab\n \n  \ncd\n    "), ("ab", "cd"))
        self.assertEqual(read_pieces(" " * 3000 + "ab" + " " * 900), ("ab",))

    def test_nothing(self):
        for text in ("", "\n", "\n\n\n", " ", "  \n \n", " " * 4000, "\n" * 4000):
            self.assertEqual(read_pieces(text), ())

    def test_no_line(self):
        self.refused("a b", 0)
        self.refused("ab\nA\ncd\n!\n", 1)
        self.refused("\n\n  \nab\n a?\n", 4)
        self.refused("ab\ncd\ne-f", 2)
        self.refused("ab,cd", 0)
        self.refused("\nab\n0", 2)
        self.refused("~", 0)
        self.refused("ab\n" * 999 + "a b", 999)
        for sign in [chr(number) for number in range(33, 127)]:
            if not "a" <= sign <= "z" and sign != "%":
                self.refused(f"ab\n\na{sign}", 2)
                self.refused(f"ab\n  {sign} \n", 1)

    def test_the_longest_piece(self):
        self.assertEqual(read_pieces("  " + "a" * 60 + "  \n"), ("a" * 60,))
        self.refused("b\n" + "a" * 61, 1)
        self.refused("a" * 4000, 0)

    def test_too_many(self):
        self.assertEqual(read_pieces("ab\n" * 40), ("ab",) * 40)
        self.assertEqual(read_pieces("ab\n\n" * 40 + "\n" * 90), ("ab",) * 40)
        for text in ("ab\n" * 41, "ab\n" * 40 + "\n  c", "a\n" * 2000):
            with self.assertRaises(TooMany) as caught:
                read_pieces(text)
            self.assertEqual(caught.exception.most, 40)

    def test_lines_go_ahead_of_too_many(self):
        self.refused("ab\n" * 41 + "A", 41)
        self.refused("ab\n" * 41 + "\n\nc d\n", 43)
        self.refused("A\n" + "ab\n" * 50, 0)


class ShowPieces(unittest.TestCase):
    def test_shown(self):
        self.assertEqual(show_pieces([]), "")
        self.assertEqual(show_pieces(()), "")
        self.assertEqual(show_pieces(["ab"]), "ab\n")
        self.assertEqual(show_pieces(("b", "ab", "b")), "b\nab\nb\n")

    def test_read_again(self):
        source = random.Random(181)
        for many in (0, 1, 2, 5, 40):
            pieces = some_pieces(source, many, "abcxyz", 60)
            text = show_pieces(pieces)
            self.assertEqual(text.count("\n"), many)
            self.assertEqual(read_pieces(text), tuple(pieces))
            self.assertEqual(show_pieces(read_pieces(text)), text)

    def test_what_is_handed_in_stays(self):
        pieces = ["b", "a"]
        for _ in range(2):
            self.assertEqual(show_pieces(pieces), "b\na\n")
            show_pieces(["x"])
        self.assertEqual(pieces, ["b", "a"])


if __name__ == "__main__":
    unittest.main()
