"""[46]: a desk that keeps pieces."""

import random
import unittest

from shortglue.desk import Desk
from shortglue.errors import NoPiece, NotTold, TooGreat, TooMany
from shortglue.families import Family
from shortglue.holding import places_in
from shortglue.listing import why_rows
from shortglue.prices import prices_of
from shortglue.shortest import shortest
from things import is_plain, odd_things, some_pieces, soon, words_of_length

# Twelve words that don't lap, so that their text is one behind another.
TWELVE = ["ab", "cd", "ef", "gh", "ij", "kl", "mn", "op", "qr", "st", "uv", "wx"]


def desk_of(pieces):
    desk = Desk()
    for piece in pieces:
        desk.add(piece)
    return desk


class Kept(unittest.TestCase):
    def check(self, desk, pieces):
        """All that a desk tells, by the family of its pieces."""
        family = Family(pieces)
        text = shortest(family)
        self.assertEqual(desk.told(), tuple(pieces))
        self.assertEqual(desk.shortest_text(), text)
        self.assertEqual(desk.where(), places_in(text, pieces))
        self.assertEqual(desk.why(), why_rows(family, prices_of(family)))
        self.assertTrue(is_plain((desk.told(), desk.shortest_text(), desk.where(), desk.why())))


class Telling(Kept):
    def test_none(self):
        desk = Desk()
        self.check(desk, [])
        self.assertEqual((desk.told(), desk.shortest_text(), desk.where()), ((), "", ()))
        self.assertEqual(desk.why(), ("0 less 0 is 0",))
        self.assertEqual(desk.length_with("abc"), 3)
        self.check(desk, [])

    def test_one(self):
        desk = Desk()
        self.assertIs(desk.add("aba"), False)
        self.check(desk, ["aba"])
        self.assertEqual((desk.shortest_text(), desk.where()), ("aba", (0,)))
        self.assertEqual(desk.why(), ("aba gives 0 takes 0", "3 less 0 is 3"))
        self.assertEqual((desk.length_with("ab"), desk.length_with("bab"), desk.length_with("c")), (3, 4, 4))
        self.check(desk, ["aba"])
        self.assertEqual(desk.drop("aba"), 0)
        self.check(desk, [])

    def test_several(self):
        desk = Desk()
        self.assertIs(desk.add("cda"), False)
        self.assertIs(desk.add("abc"), False)
        self.assertIs(desk.add("bc"), True)
        self.check(desk, ["cda", "abc", "bc"])
        self.assertEqual(desk.shortest_text(), "abcda")
        self.assertIs(desk.add("bcd"), True)
        self.check(desk, ["cda", "abc", "bc", "bcd"])
        self.assertEqual(desk.where(), (2, 0, 1, 1))
        self.assertEqual(desk.drop("abc"), 3)
        self.check(desk, ["cda", "bc", "bcd"])
        self.assertEqual(desk.drop("cda"), 2)
        self.assertEqual(desk.drop("bcd"), 1)
        self.check(desk, ["bc"])

    def test_add_tells_whether_the_text_before_holds_it(self):
        # It stands within no piece, but in their text.
        desk = desk_of(["ab", "cd"])
        self.assertEqual(desk.shortest_text(), "abcd")
        self.assertIs(desk.add("bc"), True)
        self.check(desk, ["ab", "cd", "bc"])
        # It stands in another text of the same length alone.
        desk = desk_of(["ab", "cd"])
        self.assertIs(desk.add("da"), False)
        self.check(desk, ["ab", "cd", "da"])
        self.assertEqual(desk.shortest_text(), "cdab")

    def test_like_pieces(self):
        desk = Desk()
        self.assertIs(desk.add("ab"), False)
        self.assertIs(desk.add("ab"), True)
        self.assertIs(desk.add("cd"), False)
        self.assertIs(desk.add("ab"), True)
        self.check(desk, ["ab", "ab", "cd", "ab"])
        self.assertEqual(desk.drop("ab"), 3)
        self.check(desk, ["ab", "cd", "ab"])
        self.assertEqual(desk.drop("ab"), 2)
        self.check(desk, ["cd", "ab"])
        self.assertEqual(desk.drop("ab"), 1)
        with self.assertRaises(NotTold):
            desk.drop("ab")
        self.check(desk, ["cd"])

    def test_two_desks_beside_one_another(self):
        one, other = Desk(), Desk()
        one.add("ab")
        self.check(other, [])
        other.add("xyz")
        one.add("bc")
        self.check(one, ["ab", "bc"])
        self.check(other, ["xyz"])
        other.drop("xyz")
        self.check(one, ["ab", "bc"])
        self.check(Desk(), [])

    def test_some_desks(self):
        source = random.Random(201)
        held = 0
        for _ in range(60):
            desk, pieces = Desk(), []
            for _ in range(12):
                piece = some_pieces(source, 1, "ab", 5)[0]
                before = shortest(Family(pieces))
                if pieces and source.randrange(4) == 0:
                    piece = source.choice(pieces)
                    pieces.remove(piece)
                    self.assertEqual(desk.drop(piece), len(pieces))
                else:
                    length = desk.length_with(piece)
                    self.assertEqual(desk.told(), tuple(pieces))
                    pieces.append(piece)
                    self.assertEqual(length, len(shortest(Family(pieces))))
                    self.assertLessEqual(len(before), length)
                    self.assertLessEqual(length, len(before) + len(piece))
                    told = desk.add(piece)
                    self.assertIs(told, piece in before)
                    held += told
                self.check(desk, pieces)
        self.assertGreater(held, 50)


class Refused(Kept):
    def refused(self, desk, piece, error, field):
        """Both add and length_with refuse it, and nothing is changed."""
        pieces, text = desk.told(), desk.shortest_text()
        for call in (desk.add, desk.length_with):
            with self.assertRaises(error) as caught:
                call(piece)
            self.assertEqual(caught.exception.at if error is NoPiece else caught.exception.most, field)
            self.assertEqual((desk.told(), desk.shortest_text()), (pieces, text))
        self.check(desk, pieces)

    def test_no_piece(self):
        for desk in (Desk(), desk_of(["ab"]), desk_of(TWELVE), desk_of(["ab"] * 40)):
            for piece in ("", "A", "a" * 61, "a b", None, True, 0, ["ab"], ("a",), {}):
                self.refused(desk, piece, NoPiece, 0)
        desk = desk_of(["ab"])
        for number, thing in enumerate(odd_things()):
            if not (isinstance(thing, str) and thing in ("a", "b", "ab")):
                with self.subTest(number):
                    self.refused(desk, thing, NoPiece, 0)

    def test_too_many(self):
        desk = desk_of(["ab"] * 40)
        self.refused(desk, "ab", TooMany, 40)
        self.refused(desk, "xyz", TooMany, 40)
        self.assertEqual(desk.drop("ab"), 39)
        self.assertIs(desk.add("xyz"), False)
        self.check(desk, ["ab"] * 39 + ["xyz"])

    def test_too_many_goes_ahead_of_too_great(self):
        desk = desk_of(TWELVE + ["a"] * 28)
        self.refused(desk, "yz", TooMany, 40)
        desk.drop("a")
        self.refused(desk, "yz", TooGreat, 12)

    def test_a_thirteenth_word(self):
        desk = desk_of(TWELVE)
        self.check(desk, TWELVE)
        self.assertEqual(desk.shortest_text(), "abcdefghijklmnopqrstuvwx")
        self.refused(desk, "yz", TooGreat, 12)
        # The text holds it, but it would be one word more.
        self.refused(desk, "bc", TooGreat, 12)
        self.assertIs(desk.add("cd"), True)
        self.assertIs(desk.add("x"), True)
        # One that leaves others out is taken.
        self.assertEqual(desk.length_with("yabz"), 26)
        self.assertIs(desk.add("yabz"), False)
        self.check(desk, TWELVE + ["cd", "x", "yabz"])
        self.refused(desk, "zz", TooGreat, 12)
        self.assertIs(desk.add("abcd"), False)
        self.check(desk, TWELVE + ["cd", "x", "yabz", "abcd"])
        self.refused(desk, "zz", TooGreat, 12)
        self.assertIs(desk.add("ghijklmn"), True)
        self.assertIs(desk.add("zz"), False)

    def test_not_told(self):
        for desk in (Desk(), desk_of(["ab", "b", "cd"])):
            pieces = desk.told()
            for number, thing in enumerate(odd_things() + ["cda", "bc", "d", ("ab",), ["ab", "b", "cd"], pieces, "abcd"]):
                if not (isinstance(thing, str) and thing in pieces):
                    with self.subTest(number), self.assertRaises(NotTold):
                        desk.drop(thing)
                    self.assertEqual(desk.told(), pieces)
            self.check(desk, list(pieces))

    def test_drop_that_would_leave_too_many_words(self):
        text = "".join(TWELVE) + "yz"
        pieces = [text] + TWELVE + ["yz"]
        desk = desk_of(pieces)
        self.check(desk, pieces)
        with self.assertRaises(TooGreat) as caught:
            desk.drop(text)
        self.assertEqual(caught.exception.most, 12)
        self.check(desk, pieces)
        desk.add(text)
        # Now another one of the same text stays.
        self.assertEqual(desk.drop(text), 14)
        self.check(desk, TWELVE + ["yz", text])
        desk.drop("kl")
        self.assertEqual(desk.drop(text), 12)
        self.check(desk, [piece for piece in TWELVE if piece != "kl"] + ["yz"])

    def test_twelve_words(self):
        pieces = words_of_length(random.Random(202), 12, "ab", 60)
        with soon():
            desk = desk_of(pieces)
            self.check(desk, pieces)
            self.refused(desk, "c", TooGreat, 12)
            self.assertEqual(desk.length_with(pieces[3][5:50]), len(desk.shortest_text()))
            self.assertEqual(desk.drop(pieces[5]), 11)
            self.check(desk, pieces[:5] + pieces[6:])


if __name__ == "__main__":
    unittest.main()
