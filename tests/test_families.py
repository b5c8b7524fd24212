"""[10], [11]: families and their papers."""

import itertools
import random
import unittest

from shortglue.errors import NoPiece, TooMany
from shortglue.families import Family, is_left_paper
from shortglue.laps import all_laps
from things import all_texts, is_plain, nested, odd_things, some_pieces


def parted_by_hand(pieces):
    """kept and left, by the words of [10]."""
    kept = []
    for at, piece in enumerate(pieces):
        longer = any(piece in other and len(other) > len(piece) for other in pieces)
        if not longer and piece not in pieces[:at]:
            kept.append(at)
    left = []
    for at, piece in enumerate(pieces):
        if at not in kept:
            holder = [one for one in kept if piece in pieces[one]][0]
            left.append((at, holder, pieces[holder].index(piece)))
    return tuple(kept), tuple(left)


class Parting(unittest.TestCase):
    def check(self, pieces):
        family = Family(pieces)
        kept, left = parted_by_hand(list(pieces))
        words = tuple(pieces[at] for at in kept)
        self.assertEqual(family.pieces, tuple(pieces))
        self.assertEqual((family.kept, family.left, family.words), (kept, left, words))
        self.assertEqual(family.laps, all_laps(words))
        self.assertEqual(family.total, sum(len(word) for word in words))
        self.assertEqual(family.many(), len(words))
        for value in (family.pieces, family.kept, family.words, family.left, family.laps, family.total):
            self.assertTrue(is_plain(value))
        self.assertIs(is_left_paper(pieces, family.kept, family.left), True)
        return family

    def test_no_pieces(self):
        for pieces in ([], ()):
            family = self.check(pieces)
            self.assertEqual((family.pieces, family.kept, family.words), ((), (), ()))
            self.assertEqual((family.left, family.laps, family.total, family.many()), ((), (), 0, 0))

    def test_like_pieces(self):
        family = self.check(["ab", "ab", "cd", "ab"])
        self.assertEqual((family.kept, family.words), ((0, 2), ("ab", "cd")))
        self.assertEqual(family.left, ((1, 0, 0), (3, 0, 0)))
        self.assertEqual((family.total, family.many(), family.laps), (4, 2, ((0, 0), (0, 0))))

    def test_pieces_within_others(self):
        family = self.check(("a", "bab", "xaya", "ab", "xa"))
        self.assertEqual((family.kept, family.words), ((1, 2), ("bab", "xaya")))
        self.assertEqual(family.left, ((0, 1, 1), (3, 1, 1), (4, 2, 0)))
        self.assertEqual(family.total, 7)

    def test_like_pieces_within_a_later_one(self):
        family = self.check(["ab", "ab", "xabab"])
        self.assertEqual((family.kept, family.left), ((2,), ((0, 2, 1), (1, 2, 1))))

    def test_the_holder_is_kept_though_an_earlier_one_holds_it(self):
        family = self.check(["b", "ab", "xab", "yb", "xab"])
        self.assertEqual((family.kept, family.left), ((2, 3), ((0, 2, 2), (1, 2, 1), (4, 2, 0))))

    def test_laps(self):
        self.assertEqual(self.check(["aba", "bab"]).laps, ((1, 2), (2, 1)))
        self.assertEqual(self.check(["abc", "cdab"]).laps, ((0, 1), (2, 0)))

    def test_small_rows(self):
        for pieces in itertools.product(all_texts("ab", 3, 1), repeat=2):
            self.check(list(pieces))
        source = random.Random(11)
        for _ in range(300):
            self.check(some_pieces(source, source.randrange(1, 9), "ab", 7))

    def test_forty_pieces(self):
        source = random.Random(12)
        self.check(some_pieces(source, 40, "ab", 60))
        self.check(tuple(some_pieces(source, 40, "abc", 12)))
        self.assertEqual(self.check(["a" * 60] * 40).kept, (0,))
        self.assertEqual(self.check(["a" * many for many in range(1, 41)]).kept, (39,))

    def test_a_list_changed_behind_the_making(self):
        pieces = ["ab", "bc"]
        family = Family(pieces)
        pieces.append("cd")
        pieces[0] = "zz"
        self.assertEqual((family.pieces, family.words, family.many()), (("ab", "bc"), ("ab", "bc"), 2))

    def test_what_is_handed_in_stays(self):
        pieces = ["b", "ab", "b"]
        Family(pieces)
        self.assertEqual(pieces, ["b", "ab", "b"])

    def test_two_families_side_by_side(self):
        one, other = Family(["ab", "a"]), Family(["xyz"])
        self.assertEqual((one.words, other.words), (("ab",), ("xyz",)))
        self.assertEqual((one.total, other.total, one.many(), other.many()), (2, 3, 1, 1))


class Refused(unittest.TestCase):
    def test_too_many(self):
        for kind in (list, tuple):
            Family(kind(["a"] * 40))
            for things in (["a"] * 41, ["a"] * 100, [None] * 41, ["A"] + ["a"] * 40, [True] * 41):
                with self.assertRaises(TooMany) as caught:
                    Family(kind(things))
                self.assertEqual(caught.exception.most, 40)

    def test_the_first_that_is_no_piece(self):
        for things, at in ((["A"], 0), (["a", "", "B"], 1), (("ab", "cd", "e f", 3), 2), (["a"] * 39 + [""], 39),
                           (["a" * 61], 0), (["a", "a" * 60, "a" * 61], 2), (["a", True], 1), (["ab", "b\n"], 1)):
            with self.assertRaises(NoPiece) as caught:
                Family(things)
            self.assertEqual(caught.exception.at, at)

    def test_whatever_it_is(self):
        for number, thing in enumerate(odd_things()):
            if isinstance(thing, str) and thing in ("a", "b", "ab"):
                continue
            with self.subTest(number), self.assertRaises(NoPiece) as caught:
                Family(["ab", "c", thing, thing])
            self.assertEqual(caught.exception.at, 2)


class LeftPapers(unittest.TestCase):
    pieces = ["ab", "b", "xab", "cbb", "xab"]
    kept = (2, 3)
    left = ((0, 2, 1), (1, 2, 2), (4, 2, 0))

    def right(self, kept, left, pieces=None):
        self.assertIs(is_left_paper(self.pieces if pieces is None else pieces, kept, left), True)

    def wrong(self, kept, left, pieces=None):
        self.assertIs(is_left_paper(self.pieces if pieces is None else pieces, kept, left), False)

    def test_the_familys_own_paper_in_rows_of_both_kinds(self):
        self.assertEqual((Family(self.pieces).kept, Family(self.pieces).left), (self.kept, self.left))
        self.right(self.kept, self.left)
        self.right(list(self.kept), [list(row) for row in self.left])
        self.right(list(self.kept), [(0, 2, 1), [1, 2, 2], (4, 2, 0)])
        self.right(self.kept, self.left, tuple(self.pieces))

    def test_other_right_papers(self):
        self.right((3, 4), ((0, 4, 1), (1, 4, 2), (2, 4, 0)))
        self.right((2, 3), ((0, 2, 1), (1, 3, 1), (4, 2, 0)))
        self.right((2, 3), ((0, 2, 1), (1, 3, 2), (4, 2, 0)))

    def test_no_pieces_and_nothing_left(self):
        self.right((), (), [])
        self.right([], [], ())
        self.wrong((0,), (), [])
        self.wrong((), ((0, 0, 0),), [])
        self.right((0, 1), (), ["ab", "cd"])
        self.wrong((), (), ["ab"])

    def test_kept_that_does_not_rise_or_is_no_index(self):
        self.wrong((3, 2), self.left)
        self.wrong((2, 2, 3), self.left)
        self.wrong((2, 3, 3), self.left)
        self.wrong((2, 3, 5), self.left)
        self.wrong((-1, 2, 3), self.left)
        self.wrong((2, -2), self.left)
        self.wrong((2, None), self.left)
        self.wrong((False, True), (), ["ab", "cd"])
        self.wrong((0, True), (), ["ab", "cd"])
        self.wrong({2: 2, 3: 3}, self.left)

    def test_left_that_does_not_rise_or_is_no_row_of_three(self):
        self.wrong(self.kept, ((1, 2, 2), (0, 2, 1), (4, 2, 0)))
        self.wrong(self.kept, ((0, 2, 1), (0, 2, 1), (1, 2, 2), (4, 2, 0)))
        self.wrong(self.kept, ((0, 2, 1), (1, 2, 2), (1, 3, 1), (4, 2, 0)))
        self.wrong(self.kept, ((0, 2), (1, 2, 2), (4, 2, 0)))
        self.wrong(self.kept, ((0, 2, 1, 0), (1, 2, 2), (4, 2, 0)))
        self.wrong(self.kept, ((0, 2, True), (1, 2, 2), (4, 2, 0)))
        self.wrong(self.kept, ((False, 2, 1), (1, 2, 2), (4, 2, 0)))
        self.wrong(self.kept, ((0, 2, 1), (True, 2, 2), (4, 2, 0)))
        self.wrong(self.kept, ((0, 2, 1), (1, 2, 2), (4, 2, False)))
        self.wrong(self.kept, ((0, 2, 1), (1, 2, None), (4, 2, 0)))
        self.wrong(self.kept, ((0, 2, 1), "abc", (4, 2, 0)))
        self.wrong((0,), ((1, False, 1),), ["ab", "b"])
        self.wrong((1,), ((0, True, 1),), ["b", "ab"])

    def test_an_index_in_neither_or_in_both(self):
        self.wrong(self.kept, ((0, 2, 1), (4, 2, 0)))
        self.wrong(self.kept, ())
        self.wrong((2,), self.left)
        self.wrong((3,), self.left)
        self.wrong(self.kept, ((0, 2, 1), (1, 2, 2), (2, 2, 0), (4, 2, 0)))
        self.wrong(self.kept, ((0, 2, 1), (1, 2, 2), (4, 2, 0), (5, 2, 0)))
        self.wrong(self.kept, ((-1, 2, 0), (0, 2, 1), (1, 2, 2), (4, 2, 0)))

    def test_holders_that_are_not_kept(self):
        self.wrong(self.kept, ((0, 4, 1), (1, 2, 2), (4, 2, 0)))
        self.wrong(self.kept, ((0, 2, 1), (1, 0, 1), (4, 2, 0)))
        self.wrong(self.kept, ((0, 2, 1), (1, 2, 2), (4, 4, 0)))
        self.wrong(self.kept, ((0, -3, 1), (1, 2, 2), (4, 2, 0)))
        self.wrong(self.kept, ((0, 5, 1), (1, 2, 2), (4, 2, 0)))
        self.wrong(self.kept, ((0, 10 ** 5000, 1), (1, 2, 2), (4, 2, 0)))
        self.wrong((), ((0, 1, 0), (1, 0, 0)), ["ab", "ab"])

    def test_places_at_which_it_does_not_stand(self):
        self.wrong(self.kept, ((0, 2, 0), (1, 2, 2), (4, 2, 0)))
        self.wrong(self.kept, ((0, 3, 1), (1, 2, 2), (4, 2, 0)))
        self.wrong(self.kept, ((0, 2, 1), (1, 2, 3), (4, 2, 0)))
        self.wrong(self.kept, ((0, 2, 1), (1, 2, -1), (4, 2, 0)))
        self.wrong(self.kept, ((0, 2, 1), (1, 2, 2), (4, 2, 1)))
        self.wrong(self.kept, ((0, 2, 1), (1, 2, 10 ** 5000), (4, 2, 0)))
        self.wrong(self.kept, ((0, 2, 1), (1, 2, -(10 ** 5000)), (4, 2, 0)))

    def test_kept_ones_within_one_another(self):
        self.wrong((0, 2, 3), ((1, 2, 2), (4, 2, 0)))
        self.wrong((2, 3, 4), ((0, 2, 1), (1, 2, 2)))
        self.wrong((0, 1), (), ["ab", "xab"])
        self.wrong((0, 1), (), ["xab", "ab"])
        self.wrong((0, 1), (), ["ab", "ab"])

    def test_whatever_they_are(self):
        things = odd_things()
        for number, thing in enumerate(things):
            with self.subTest(number):
                self.wrong(thing, self.left)
                self.wrong(self.kept, thing)
                self.wrong(self.kept, ((0, 2, 1), thing, (4, 2, 0)))
                self.wrong(thing, thing)
                empty = thing in ([], ()) and isinstance(thing, (list, tuple))
                self.assertIs(is_left_paper([], thing, ()), empty)
                self.assertIs(is_left_paper([], (), thing), empty)
                self.assertIs(is_left_paper(["ab", "cd"], (0, 1), thing), empty)
        for at in range(3):
            for number, thing in enumerate(odd_things()):
                row = [1, 2, 2]
                if isinstance(thing, int) and not isinstance(thing, bool) and thing == row[at]:
                    continue
                row[at] = thing
                with self.subTest((at, number)):
                    self.wrong(self.kept, ((0, 2, 1), row, (4, 2, 0)))

    def test_what_is_handed_in_stays(self):
        pieces, kept, left = list(self.pieces), list(self.kept), [list(row) for row in self.left]
        for _ in range(2):
            self.right(kept, left, pieces)
        self.assertEqual((pieces, kept, left), (self.pieces, list(self.kept), [list(row) for row in self.left]))

    def test_all_papers_of_small_rows(self):
        for pieces in (["a", "ba"], ["a", "a"], ["ab", "ab", "b"], ["ab", "b", "bb"]):
            many = len(pieces)
            for kept in itertools.chain(*(itertools.combinations(range(many), k) for k in range(many + 1))):
                out = [at for at in range(many) if at not in kept]
                choices = [[(at, holder, place) for holder in range(many) for place in range(-1, 3)] for at in out]
                for left in itertools.product(*choices):
                    wanted = all(h in kept and p >= 0 and pieces[h][p:].startswith(pieces[at]) for at, h, p in left)
                    for one, other in itertools.permutations(kept, 2):
                        wanted = wanted and pieces[one] not in pieces[other]
                    self.assertIs(is_left_paper(pieces, kept, left), wanted)

    def test_deep_things(self):
        for kind in (list, tuple, dict):
            self.wrong(nested(kind, 30, 0), self.left)
            self.wrong(self.kept, nested(kind, 30, 0))


if __name__ == "__main__":
    unittest.main()
