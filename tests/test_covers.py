"""[40], [41]: covers of gapped pieces, and marks."""

import itertools
import random
import unittest

from shortglue.covers import are_marks, cover, is_cover
from shortglue.errors import NoPiece, NotCovered, TooMany
from things import all_texts, as_lists, is_plain, odd_things, soon


def standing(text, pieces):
    """All (place, index) at which a piece stands."""
    found = []
    for index, piece in enumerate(pieces):
        for place in range(len(text) - len(piece) + 1):
            if all(own in ("?", text[place + at]) for at, own in enumerate(piece)):
                found.append((place, index))
    return found


def signs_of(pieces, place, index):
    return set(range(place, place + len(pieces[index])))


def cover_by_hand(text, pieces):
    """As [40] says it; the place of a mark that nothing covers in the place of a cover."""
    chosen, marks, covered = [], [], set()
    while len(covered) < len(text):
        mark = min(set(range(len(text))) - covered)
        able = [row for row in standing(text, pieces) if mark in signs_of(pieces, *row)]
        if not able:
            return mark
        best = min(able, key=lambda row: (-max(signs_of(pieces, *row)), row[1]))
        chosen.append(best)
        marks.append(mark)
        covered |= signs_of(pieces, *best)
    return tuple(chosen), tuple(marks)


def some_gapped(source, many, letters="ab?", most=4):
    return ["".join(source.choice(letters) for _ in range(source.randrange(1, most + 1))) for _ in range(many)]


class Cover(unittest.TestCase):
    def check(self, text, pieces):
        wanted = cover_by_hand(text, pieces)
        if isinstance(wanted, int):
            with self.assertRaises(NotCovered) as caught:
                cover(text, pieces)
            self.assertEqual(caught.exception.at, wanted)
            return None
        told = cover(text, pieces)
        self.assertEqual(told, wanted)
        self.assertTrue(is_plain(told))
        chosen, marks = told
        self.assertIs(is_cover(text, pieces, chosen), True)
        self.assertIs(are_marks(text, pieces, marks), True)
        self.assertEqual(len(chosen), len(marks))
        return told

    def test_the_empty_text(self):
        for pieces in ([], (), ["a"], ("?", "ab")):
            self.assertEqual(self.check("", pieces), ((), ()))

    def test_one_sign(self):
        self.assertEqual(self.check("a", ["a"]), (((0, 0),), (0,)))
        self.assertEqual(self.check("a", ("b", "?", "a")), (((0, 1),), (0,)))
        self.assertIsNone(self.check("a", ["b", "a?", "??"]))

    def test_the_one_that_reaches_farthest(self):
        self.assertEqual(self.check("abab", ["ab", "aba", "b"]), (((0, 1), (2, 0)), (0, 3)))
        self.assertEqual(self.check("aabb", ["aab", "ab?"]), (((0, 0), (1, 1)), (0, 3)))
        # It begins before the mark, but reaches farther than all that begin there.
        self.assertEqual(self.check("aaaaab", ["aa", "a", "aaaab", "aaaa"]), (((0, 3), (1, 2)), (0, 4)))

    def test_of_several_the_least_index(self):
        self.assertEqual(self.check("abc", ["b", "abc", "???", "a?c"]), (((0, 1),), (0,)))
        self.assertEqual(self.check("abc", ["b", "???", "abc", "a?c"]), (((0, 1),), (0,)))
        # Both reach up to the end; the shorter one has the lesser index.
        self.assertEqual(self.check("abcd", ["ab", "d", "cd", "bcd"]), (((0, 0), (2, 2)), (0, 2)))
        self.assertEqual(self.check("abcd", ["abc", "d", "cd", "bcd"]), (((0, 0), (3, 1)), (0, 3)))
        self.assertEqual(self.check("abcd", ["abc", "bcd", "cd", "d"]), (((0, 0), (1, 1)), (0, 3)))

    def test_signs_under_a_gap_are_covered(self):
        self.assertEqual(self.check("axxb", ["a??b"]), (((0, 0),), (0,)))
        self.assertEqual(self.check("xaxx", ["?a??"]), (((0, 0),), (0,)))
        self.assertEqual(self.check("xax", ["?a", "a?"]), (((0, 0), (1, 1)), (0, 2)))

    def test_not_covered(self):
        for text, pieces, at in (("abc", ["b", "c"], 0), ("abc", ["a", "c"], 1), ("abc", ["ab"], 2), ("abc", [], 0),
                                 ("abc", ["a??d", "????"], 0), ("abab", ["aba"], 3), ("a" * 4000, (), 0)):
            with self.assertRaises(NotCovered) as caught:
                cover(text, pieces)
            self.assertEqual(caught.exception.at, at)
            self.check(text[:100], pieces)

    def test_small_texts(self):
        source = random.Random(161)
        held = 0
        for text in all_texts("ab", 7):
            for _ in range(4):
                held += self.check(text, some_gapped(source, source.randrange(0, 5))) is not None
        self.assertGreater(held, 200)

    def test_no_cover_is_smaller(self):
        source = random.Random(162)
        for _ in range(150):
            text = "".join(source.choice("ab") for _ in range(source.randrange(1, 8)))
            pieces = some_gapped(source, 3, "ab?", 4)
            told = self.check(text, pieces)
            if told:
                rows = standing(text, pieces)
                for many in range(len(told[0])):
                    for chosen in itertools.combinations(rows, many):
                        self.assertIs(is_cover(text, pieces, chosen), False)

    def test_great_texts(self):
        source = random.Random(163)
        text = "".join(source.choice("ab") for _ in range(4000))
        with soon():
            for pieces in (["a", "b"], ["?"], ["?" * 60], ["?" * 60] * 40, some_gapped(source, 38, "ab?", 9) + ["a", "b"]):
                chosen, marks = cover(text, pieces)
                self.assertEqual(len(chosen), len(marks))
                self.assertIs(is_cover(text, pieces, chosen), True)
                self.assertIs(are_marks(text, pieces, marks), True)
            self.assertEqual(len(cover(text, ["a", "b"])[0]), 4000)
            self.assertEqual(len(cover(text, ["?" * 60])[0]), 67)
            worst = ["a" * 59 + "b"] * 20 + ["?" * 59 + "b"] * 19 + ["a"]
            self.assertEqual(cover("a" * 4000, worst)[1], tuple(range(4000)))
        with self.assertRaises(NotCovered) as caught:
            cover("a" * 3999 + "b", ["aa", "a"])
        self.assertEqual(caught.exception.at, 3999)

    def test_what_is_handed_in_stays(self):
        pieces = ["ab", "?b"]
        for _ in range(2):
            self.assertEqual(cover("abb", pieces), (((0, 0), (1, 1)), (0, 2)))
            cover("x", ["?"])
        self.assertEqual(pieces, ["ab", "?b"])


class Refused(unittest.TestCase):
    def test_too_many(self):
        cover("a", ["a"] * 40)
        for text in ("a", "", "b"):
            for things in (["a"] * 41, tuple(["?"] * 41), [None] * 41, ["A"] + ["a"] * 40):
                with self.assertRaises(TooMany) as caught:
                    cover(text, things)
                self.assertEqual(caught.exception.most, 40)

    def test_no_piece(self):
        for text in ("a", "", "b", "zz"):
            for things, at in (([""], 0), (["a", "A"], 1), (("a", "?", "a" * 61, ""), 2), (["?" * 61], 0), ([True], 0),
                               (["a"] * 39 + ["a b"], 39)):
                with self.assertRaises(NoPiece) as caught:
                    cover(text, things)
                self.assertEqual(caught.exception.at, at)

    def test_whatever_it_is(self):
        for number, thing in enumerate(odd_things()):
            if isinstance(thing, str) and thing in ("a", "b", "ab"):
                continue
            with self.subTest(number):
                for text in ("ab", "zz", ""):
                    with self.assertRaises(NoPiece) as caught:
                        cover(text, ["a?", thing, thing])
                    self.assertEqual(caught.exception.at, 1)


class IsCover(unittest.TestCase):
    text = "abcab"
    pieces = ["ab", "c", "b?a", "ca"]

    def right(self, chosen):
        self.assertIs(is_cover(self.text, self.pieces, chosen), True)

    def wrong(self, chosen):
        self.assertIs(is_cover(self.text, self.pieces, chosen), False)

    def test_right_covers(self):
        self.right(((0, 0), (2, 1), (3, 0)))
        self.right([[3, 0], (0, 0), [2, 1]])
        self.right(((3, 0), (2, 3), (0, 0), (0, 0), (2, 3)))
        self.right(((0, 0), (1, 2), (3, 0)))
        self.assertIs(is_cover(self.text, tuple(self.pieces), ((0, 0), (1, 2), (3, 0))), True)

    def test_wrong_covers(self):
        self.wrong(((0, 0), (3, 0)))
        self.wrong(((2, 1), (3, 0)))
        self.wrong(((1, 2), (3, 0)))
        self.wrong(((0, 0), (2, 1)))
        self.wrong(((0, 0), (1, 2)))
        self.wrong(())
        self.wrong(((0, 0), (2, 1), (3, 0), (1, 1)))
        self.wrong(((0, 0), (2, 1), (3, 0), (4, 0)))
        self.wrong(((0, 0), (2, 1), (3, 0), (-2, 0)))
        self.wrong(((0, 0), (2, 1), (3, 0), (2, 4)))
        self.wrong(((0, 0), (2, -3), (3, 0)))
        self.wrong(((0, 0), (2, 1), (3, 0), (10 ** 5000, 0)))
        self.wrong(((0, 0), (2, 1), (3, 0), (2, 10 ** 5000)))

    def test_the_empty_text_and_no_pieces(self):
        for pieces in ([], ["a"], ("?",)):
            self.assertIs(is_cover("", pieces, ()), True)
            self.assertIs(is_cover("", pieces, []), True)
            self.assertIs(is_cover("", pieces, [(0, 0)]), False)
            self.assertIs(is_cover("a", pieces, ()), False)
        self.assertIs(is_cover("a", [], [(0, 0)]), False)
        self.assertIs(is_cover("a", [], [(0, -1)]), False)

    def test_rows_of_another_form(self):
        for row in ((0,), (0, 0, 0), 0, None, "ab", {0: 0, 1: 0}, (0, None), (None, 0), (0, False), (False, 0), ((0, 0),),
                    (True, 2), ("0", 0), ()):
            self.wrong(((0, 0), (2, 1), (3, 0), row))
            self.wrong((row, (0, 0), (2, 1), (3, 0)))
        self.wrong({0: (0, 0), 1: (2, 1), 2: (3, 0)})
        self.assertIs(is_cover("ab", ["a", "b"], ((0, 0), (True, 1))), False)
        self.assertIs(is_cover("ab", ["a", "b"], ((0, 0), (1, True))), False)
        self.assertIs(is_cover("ab", ["a", "b"], ((0, 0), (1, 1))), True)

    def test_whatever_it_is(self):
        for number, thing in enumerate(odd_things()):
            with self.subTest(number):
                self.wrong(thing)
                self.assertIs(is_cover("", ["a"], thing), isinstance(thing, (list, tuple)) and len(thing) == 0)
                self.assertIs(is_cover("", [], thing), isinstance(thing, (list, tuple)) and len(thing) == 0)
                if not isinstance(thing, (list, tuple)):
                    self.wrong(((0, 0), (2, 1), (3, 0), thing))
                whole = isinstance(thing, int) and not isinstance(thing, bool)
                self.assertIs(is_cover("aa", ["a", "?"], [(0, 0), (1, thing)]), whole and thing in (0, 1))
                self.assertIs(is_cover("aa", ["a", "?"], [(0, 0), (thing, 1)]), whole and thing == 1)

    def test_all_small_covers(self):
        text, pieces = "aba", ["a", "?b", "ba"]
        rows = [(place, index) for place in range(-1, 4) for index in range(-1, 4)]
        right = standing(text, pieces)
        for many in range(4):
            for chosen in itertools.product(rows, repeat=many):
                wanted = all(row in right for row in chosen) and {
                    sign for row in chosen for sign in signs_of(pieces, *row)} == {0, 1, 2}
                self.assertIs(is_cover(text, pieces, chosen), wanted)

    def test_what_is_handed_in_stays(self):
        chosen = [[3, 0], [0, 0], [2, 1]]
        for _ in range(2):
            self.right(chosen)
        self.assertEqual((chosen, self.pieces), ([[3, 0], [0, 0], [2, 1]], ["ab", "c", "b?a", "ca"]))


class AreMarks(unittest.TestCase):
    def test_rising_places(self):
        for marks in ((), [], (0,), (4,), (0, 2), [0, 3], (1, 4), (0, 2, 4)):
            self.assertIs(are_marks("abcab", ["ab", "c"], marks), True)
        for marks in ((2, 0), (0, 0), (0, 2, 2), (-1, 2), (0, 5), (5,), (-1,), (0, 10 ** 5000), (-(10 ** 5000),)):
            self.assertIs(are_marks("abcab", ["ab", "c"], marks), False)
        self.assertIs(are_marks("", ["a"], ()), True)
        self.assertIs(are_marks("", ["a"], (0,)), False)
        self.assertIs(are_marks("abc", [], (0, 1, 2)), True)

    def test_two_that_one_piece_covers(self):
        self.assertIs(are_marks("abcab", ["ab", "c"], (0, 1)), False)
        self.assertIs(are_marks("abcab", ["ab", "c"], (0, 3, 4)), False)
        self.assertIs(are_marks("abcab", ["a??a"], (0, 3)), False)
        self.assertIs(are_marks("abcab", ["a??a"], (1, 2)), False)
        self.assertIs(are_marks("abcab", ["a??a"], (0, 4)), True)
        self.assertIs(are_marks("abcab", ["a??a"], (3, 4)), True)
        self.assertIs(are_marks("abcab", ["a??b"], (0, 3)), True)
        self.assertIs(are_marks("abcab", ["???"], (0, 2)), False)
        self.assertIs(are_marks("abcab", ["???"], (0, 3)), True)
        self.assertIs(are_marks("abcab", ["??????"], (0, 1, 2, 3, 4)), True)

    def test_whatever_it_is(self):
        for thing in ((False, 1), (0, True), (True,), [False], {0: 0}, "a", (0, None), ((0,),), (0, "2"), None, 0):
            self.assertIs(are_marks("xyz", ["x"], thing), False)
        for number, thing in enumerate(odd_things()):
            with self.subTest(number):
                right = isinstance(thing, (list, tuple)) and (len(thing) == 0 or thing == (0, 2))
                self.assertIs(are_marks("xyz", ["x"], thing), right)
                self.assertIs(are_marks("", [], thing), isinstance(thing, (list, tuple)) and len(thing) == 0)
                whole = isinstance(thing, int) and not isinstance(thing, bool)
                self.assertIs(are_marks("xyz", ["x"], [0, thing]), whole and thing in (1, 2))

    def test_all_small_marks(self):
        source = random.Random(164)
        for _ in range(60):
            text = "".join(source.choice("ab") for _ in range(source.randrange(1, 7)))
            pieces = some_gapped(source, source.randrange(0, 4))
            covered = [signs_of(pieces, *row) for row in standing(text, pieces)]
            for many in range(4):
                for marks in itertools.product(range(len(text)), repeat=many):
                    wanted = list(marks) == sorted(set(marks)) and all(len(signs & set(marks)) < 2 for signs in covered)
                    self.assertIs(are_marks(text, pieces, marks), wanted)
                    self.assertIs(are_marks(text, tuple(pieces), as_lists(marks)), wanted)

    def test_what_is_handed_in_stays(self):
        pieces, marks = ["ab", "c"], [0, 2]
        for _ in range(2):
            self.assertIs(are_marks("abcab", pieces, marks), True)
        self.assertEqual((pieces, marks), (["ab", "c"], [0, 2]))


if __name__ == "__main__":
    unittest.main()
