"""[20]: best pairings and their prices."""

import itertools
import random
import unittest

from shortglue.errors import NoTable
from shortglue.pairing import best_pairing, is_pairing_paper
from things import as_lists, is_plain, nested, odd_things, soon


def told(rows, followers):
    return sum(rows[i][j] for i, j in enumerate(followers))


def most_told(rows):
    return max(told(rows, order) for order in itertools.permutations(range(len(rows))))


def some_table(source, many, most):
    return [[source.randrange(most + 1) for _ in range(many)] for _ in range(many)]


class BestPairing(unittest.TestCase):
    def check(self, rows):
        """A pairing with prices as [20] tells; these show that none tells more."""
        paper = best_pairing(rows)
        self.assertTrue(is_plain(paper))
        followers, gives, takes = paper
        many = len(rows)
        self.assertEqual(sorted(followers), list(range(many)))
        self.assertEqual((len(gives), len(takes)), (many, many))
        self.assertGreaterEqual(min(gives + takes, default=0), 0)
        for i, j in itertools.product(range(many), repeat=2):
            self.assertGreaterEqual(gives[i] + takes[j], rows[i][j])
            if followers[i] == j:
                self.assertEqual(gives[i] + takes[j], rows[i][j])
        self.assertEqual(sum(gives) + sum(takes), told(rows, followers))
        self.assertIs(is_pairing_paper(rows, paper), True)
        return paper

    def test_no_rows(self):
        self.assertEqual(best_pairing([]), ((), (), ()))
        self.assertEqual(best_pairing(()), ((), (), ()))

    def test_one_row(self):
        for number in (0, 1, 7, 1000000):
            followers, gives, takes = self.check([[number]])
            self.assertEqual(followers, (0,))
            self.assertEqual(gives[0] + takes[0], number)

    def test_the_greatest_number_is_not_always_taken(self):
        self.assertEqual(self.check([[9, 8], [8, 0]])[0], (1, 0))
        self.assertEqual(self.check([[0, 0, 9], [5, 0, 8], [0, 1, 9]])[0], (2, 0, 1))
        self.assertEqual(told([[7, 4, 3], [6, 8, 5], [9, 4, 4]], self.check([[7, 4, 3], [6, 8, 5], [9, 4, 4]])[0]), 20)

    def test_its_own_follower(self):
        self.assertEqual(self.check([[5, 1], [1, 5]])[0], (0, 1))
        self.assertEqual(self.check([[1, 5], [5, 1]])[0], (1, 0))

    def test_all_tables_of_two_rows(self):
        for a, b, c, d in itertools.product(range(4), repeat=4):
            rows = [[a, b], [c, d]]
            self.assertEqual(told(rows, self.check(rows)[0]), max(a + d, b + c))

    def test_against_all_pairings(self):
        source = random.Random(31)
        for many in range(1, 7):
            for most in (1, 2, 9, 1000000):
                for _ in range(12):
                    rows = some_table(source, many, most)
                    self.assertEqual(told(rows, self.check(rows)[0]), most_told(rows))

    def test_noughts_and_like_numbers(self):
        for many in (1, 2, 5, 40):
            for number in (0, 1, 1000000):
                followers, gives, takes = self.check([[number] * many] * many)
                self.assertEqual(sum(gives) + sum(takes), many * number)

    def test_forty_rows(self):
        source = random.Random(32)
        with soon():
            for most in (1, 5, 60, 1000000):
                self.check(some_table(source, 40, most))
            self.check([[(i + 1) * (j + 1) * 600 for j in range(40)] for i in range(40)])
            self.check([[1000000 - (i + 1) * (j + 1) * 600 for j in range(40)] for i in range(40)])
            self.check([[1000000 - abs(i - j) for j in range(40)] for i in range(40)])
            self.check([[1000000 * (i > j) for j in range(40)] for i in range(40)])

    def test_lists_and_tuples_alike(self):
        source = random.Random(33)
        for many in (0, 1, 3, 8):
            rows = some_table(source, many, 3)
            kept = as_lists(rows)
            first = best_pairing(rows)
            best_pairing(some_table(source, 4, 9))
            for same in (rows, tuple(rows), [tuple(row) for row in rows], tuple(tuple(row) for row in rows)):
                self.assertEqual(best_pairing(same), first)
                self.assertIs(is_pairing_paper(same, first), True)
            self.assertEqual(rows, kept)

    def refused(self, rows):
        with self.assertRaises(NoTable):
            best_pairing(rows)
        self.assertIs(is_pairing_paper(rows, ((), (), ())), False)

    def test_too_many_rows(self):
        best_pairing([[0] * 40] * 40)
        self.refused([[0] * 41] * 41)
        self.refused([[0] * 40] * 41)
        self.refused([[0] * 41] * 40)

    def test_rows_too_short_or_too_long(self):
        self.refused([[]])
        self.refused([[0, 0]])
        self.refused([[0], [0]])
        self.refused([[0, 0], [0]])
        self.refused([[0], [0, 0]])
        self.refused([[0, 0], [0, 0, 0]])
        self.refused([[0, 0, 0], [0, 0, 0]])

    def test_numbers_beyond(self):
        for number in (-1, 1000001, -1000000, 10 ** 5000, -(10 ** 5000), True, False, None, "1", [1], ()):
            self.refused([[number]])
            self.refused([[0, 1], [number, 1]])
            self.refused([[0, number], [1, 1]])

    def test_rows_whatever_they_are(self):
        for number, thing in enumerate(odd_things()):
            with self.subTest(number):
                if isinstance(thing, (list, tuple)) and len(thing) == 0:
                    self.assertEqual(best_pairing(thing), ((), (), ()))
                    continue
                self.refused(thing)
                self.refused([[0, 0, 0], thing, [0, 0, 0]])
                self.refused([thing, [0, 0], [0, 0], [0, 0]])


class IsPairingPaper(unittest.TestCase):
    rows = [[3, 1, 0], [2, 2, 0], [0, 1, 1]]
    right = ((0, 1, 2), (2, 1, 0), (1, 1, 1))

    def test_right_papers(self):
        self.assertIs(is_pairing_paper(self.rows, self.right), True)
        self.assertIs(is_pairing_paper(self.rows, as_lists(self.right)), True)
        self.assertIs(is_pairing_paper(tuple(tuple(row) for row in self.rows), as_lists(self.right)), True)
        self.assertIs(is_pairing_paper(self.rows, [[0, 1, 2], (3, 2, 1), (0, 0, 0)]), True)
        self.assertIs(is_pairing_paper([], ((), [], ())), True)
        self.assertIs(is_pairing_paper([[4]], ([0], [4], [0])), True)
        self.assertIs(is_pairing_paper([[4]], ([0], [1], [3])), True)

    def test_several_right_pairings(self):
        rows = [[1, 1], [1, 1]]
        for followers in ((0, 1), (1, 0)):
            for gives, takes in (((1, 1), (0, 0)), ((0, 0), (1, 1))):
                self.assertIs(is_pairing_paper(rows, (followers, gives, takes)), True)
            self.assertIs(is_pairing_paper(rows, (followers, (1, 0), (0, 1))), False)

    def test_all_small_papers(self):
        source = random.Random(34)
        papers = 0
        for _ in range(15):
            rows = some_table(source, 2, 2)
            best = most_told(rows)
            for a, b, c, d in itertools.product(range(-1, 4), repeat=4):
                low = min(a, b, c, d) < 0 or min(a + c - rows[0][0], a + d - rows[0][1],
                                                 b + c - rows[1][0], b + d - rows[1][1]) < 0
                for followers in ((0, 1), (1, 0), (0, 0), (1, 1), (1, 2), (-1, 0)):
                    right = sorted(followers) == [0, 1] and not low and told(rows, followers) == a + b + c + d
                    self.assertIs(is_pairing_paper(rows, (followers, (a, b), (c, d))), right)
                    self.assertTrue(not right or told(rows, followers) == best)
                    papers += right
        self.assertGreater(papers, 30)

    def wrong(self, paper):
        self.assertIs(is_pairing_paper(self.rows, paper), False)

    def test_no_pairing(self):
        gives, takes = self.right[1:]
        for followers in ((0, 1), (0, 1, 2, 3), (0, 0, 2), (0, 1, 3), (-1, 1, 2), (0, True, 2), (False, 1, 2), (), None,
                          "012", {0: 0, 1: 1, 2: 2}):
            self.wrong((followers, gives, takes))

    def test_pairing_that_tells_less(self):
        for followers in itertools.permutations(range(3)):
            if followers != (0, 1, 2):
                self.wrong((followers,) + self.right[1:])

    def test_prices_too_low_or_too_high(self):
        for which in (1, 2):
            for at in range(3):
                for change in (-1, 1):
                    paper = as_lists(self.right)
                    paper[which][at] += change
                    self.wrong(paper)
        self.wrong(((0, 1, 2), (4, 3, 2), (-1, -1, -1)))
        self.wrong(((0, 1, 2), (-1, -2, -3), (4, 4, 4)))

    def test_prices_too_low_beside_the_pairing(self):
        self.assertIs(is_pairing_paper([[1, 5], [0, 1]], ((0, 1), (1, 1), (0, 0))), False)
        self.assertIs(is_pairing_paper([[1, 0], [5, 1]], ((0, 1), (1, 1), (0, 0))), False)

    def test_prices_of_another_kind(self):
        self.wrong(((0, 1, 2), (2, True, 0), (1, 1, 1)))
        self.wrong(((0, 1, 2), (2, 1, False), (1, 1, 1)))
        self.wrong(((0, 1, 2), (2, 1, 0), (1, True, 1)))
        for thing in (None, "1", [1], (), 10 ** 5000, -(10 ** 5000)):
            for which in (1, 2):
                for at in range(3):
                    paper = as_lists(self.right)
                    paper[which][at] = thing
                    self.wrong(paper)

    def test_another_number_of_rows(self):
        self.wrong(self.right[:2])
        self.wrong(self.right + ((),))
        self.wrong(((0, 1, 2), (2, 1, 0), (1, 1)))
        self.wrong(((0, 1, 2), (2, 1, 0), (1, 1, 1, 0)))
        self.wrong(((0, 1, 2), (2, 1), (1, 1, 1)))
        self.wrong(((0, 1, 2), (2, 1, 0, 0), (1, 1, 1)))
        self.wrong({0: (0, 1, 2), 1: (2, 1, 0), 2: (1, 1, 1)})

    def test_rows_that_are_no_table(self):
        for rows in ([[0] * 41] * 41, [[True]], [[-1]], [[1000001]], [[]], [[0, 0]]):
            many = len(rows)
            self.assertIs(is_pairing_paper(rows, (tuple(range(many)), (2000000,) * many, (0,) * many)), False)
        self.assertIs(is_pairing_paper([[True]], ((0,), (1,), (0,))), False)
        self.assertIs(is_pairing_paper([[1000001]], ((0,), (1000001,), (0,))), False)
        self.assertIs(is_pairing_paper([[0] * 41] * 41, (tuple(range(41)), (0,) * 41, (0,) * 41)), False)
        self.assertIs(is_pairing_paper([[-1]], ((0,), (0,), (0,))), False)
        self.assertIs(is_pairing_paper({}, ((), (), ())), False)
        self.assertIs(is_pairing_paper("", ((), (), ())), False)

    def test_whatever_both_are(self):
        things = odd_things()
        for number, thing in enumerate(things):
            with self.subTest(number):
                self.wrong(thing)
                for which in range(3):
                    paper = list(self.right)
                    paper[which] = thing
                    self.wrong(paper)
                for other in things:
                    self.assertIs(is_pairing_paper(other, thing), False)
        self.wrong(nested(list, 30, self.right))

    def test_what_is_handed_in_stays(self):
        rows, paper = as_lists(self.rows), as_lists(self.right)
        for _ in range(2):
            self.assertIs(is_pairing_paper(rows, paper), True)
        self.assertEqual((rows, paper), (self.rows, as_lists(self.right)))


if __name__ == "__main__":
    unittest.main()
