"""[21]: price papers and their bounds."""

import itertools
import random
import unittest

from shortglue.families import Family
from shortglue.orders import text_of
from shortglue.prices import price_bound, prices_of
from things import ahead_of_all, as_lists, is_plain, odd_things, some_pieces, soon


def least_length(family):
    """The least length of a text that holds all words, over all orders."""
    orders = itertools.permutations(range(family.many()))
    return len(ahead_of_all([text_of(family, order) for order in orders]))


def is_right(family, gives, takes):
    pairs = itertools.permutations(range(family.many()), 2)
    return min(gives + takes, default=0) >= 0 and all(gives[i] + takes[j] >= family.laps[i][j] for i, j in pairs)


def some_right_paper(source, family):
    """A right paper that is seldom a good one."""
    many = family.many()
    gives = [source.randrange(4) for _ in range(many)]
    takes = [max([family.laps[i][j] - gives[i] for i in range(many) if i != j] + [0]) for j in range(many)]
    for row in (gives, takes):
        for at in range(many):
            row[at] += source.choice((0, 0, 0, 1, 20))
    return gives, takes


class PriceBound(unittest.TestCase):
    family = Family(["abc", "bcd", "b", "cda"])
    right = ((2, 2, 1), (0, 0, 0))

    def none(self, paper, family=None):
        self.assertIsNone(price_bound(family or self.family, paper))

    def test_right_papers(self):
        self.assertEqual(self.family.laps, ((0, 2, 1), (0, 0, 2), (1, 0, 0)))
        self.assertEqual(price_bound(self.family, self.right), 4)
        self.assertEqual(price_bound(self.family, as_lists(self.right)), 4)
        self.assertEqual(price_bound(self.family, [(0, 0, 0), [1, 2, 2]]), 4)
        self.assertEqual(price_bound(self.family, [[1, 0, 1], [0, 1, 2]]), 4)
        self.assertEqual(price_bound(self.family, ((2, 2, 2), (2, 2, 2))), -3)
        self.assertEqual(price_bound(self.family, ((2, 2, 1), (0, 0, 10 ** 30))), 4 - 10 ** 30)

    def test_no_words_and_one(self):
        for paper in (((), ()), [[], []], [(), []]):
            self.assertEqual(price_bound(Family([]), paper), 0)
        for paper in ((), ((),), ((), (), ()), ((0,), ()), ((), (0,)), "", {}, None, 0):
            self.none(paper, Family([]))
        self.assertEqual(price_bound(Family(["ab"]), ((0,), (0,))), 2)
        self.assertEqual(price_bound(Family(["ab"]), ((1,), (3,))), -2)
        self.none(((), ()), Family(["ab"]))

    def test_its_own_lap_asks_nothing(self):
        self.assertEqual(price_bound(Family(["aaaa"]), ((0,), (0,))), 4)
        family = Family(["aaaa", "bbbb"])
        self.assertEqual(family.laps, ((3, 0), (0, 3)))
        self.assertEqual(price_bound(family, ((0, 0), (0, 0))), 8)

    def test_one_price_too_low(self):
        self.none(((1, 2, 1), (0, 0, 0)))
        self.none(((2, 1, 1), (0, 0, 0)))
        self.none(((2, 2, 0), (0, 0, 0)))
        self.none(((0, 0, 0), (0, 2, 2)))
        self.none(((0, 0, 0), (1, 1, 2)))
        self.none(((0, 0, 0), (1, 2, 1)))

    def test_all_papers_of_small_families(self):
        source = random.Random(41)
        for _ in range(10):
            family = Family(some_pieces(source, 2, "ab", 4))
            many = family.many()
            for row in itertools.product(range(-1, 4), repeat=2 * many):
                gives, takes = row[:many], row[many:]
                wanted = family.total - sum(row) if is_right(family, gives, takes) else None
                self.assertEqual(price_bound(family, (gives, takes)), wanted)

    def test_rows_of_the_wrong_length(self):
        self.none(((2, 2), (0, 0, 0)))
        self.none(((2, 2, 1), (0, 0)))
        self.none(((2, 2, 1, 0), (0, 0, 0)))
        self.none(((2, 2, 1), (0, 0, 0, 0)))
        self.none(((2, 2, 1),))
        self.none(((2, 2, 1), (0, 0, 0), (0, 0, 0)))
        self.none((2, 2, 1, 0, 0, 0))
        self.none({0: (2, 2, 1), 1: (0, 0, 0)})

    def test_numbers_of_another_kind(self):
        self.none(((3, 3, 3), (-1, 0, 0)))
        self.none(((-1, 3, 3), (3, 3, 3)))
        self.none(((2, 2, True), (0, 0, 0)))
        self.none(((2, 2, 1), (False, 0, 0)))
        for thing in (None, "1", (1,), [], True, -1, -(10 ** 5000)):
            for at in range(3):
                for which in range(2):
                    paper = [[2, 2, 2], [2, 2, 2]]
                    paper[which][at] = thing
                    self.none(paper)

    def test_whatever_it_is(self):
        for number, thing in enumerate(odd_things()):
            with self.subTest(number):
                self.none(thing)
                self.none((thing, (2, 2, 2)))
                self.none(((2, 2, 2), thing))
                self.none(thing, Family([]))
                if thing != [[0], [1]]:
                    self.none(thing, Family(["ab"]))
        self.assertEqual(price_bound(Family(["ab"]), [[0], [1]]), 1)

    def test_no_text_is_shorter(self):
        source = random.Random(42)
        for _ in range(120):
            family = Family(some_pieces(source, source.randrange(0, 6), "ab", 6))
            least = least_length(family)
            for _ in range(8):
                gives, takes = some_right_paper(source, family)
                bound = price_bound(family, (gives, takes))
                self.assertEqual(bound, family.total - sum(gives) - sum(takes))
                self.assertLessEqual(bound, least)

    def test_what_is_handed_in_stays(self):
        paper = as_lists(self.right)
        for _ in range(2):
            self.assertEqual(price_bound(self.family, paper), 4)
        self.assertEqual(paper, as_lists(self.right))


class PricesOf(unittest.TestCase):
    def check(self, family):
        paper = prices_of(family)
        self.assertTrue(is_plain(paper))
        gives, takes = paper
        self.assertEqual((len(gives), len(takes)), (family.many(), family.many()))
        self.assertTrue(is_right(family, gives, takes))
        bound = price_bound(family, paper)
        self.assertEqual(bound, family.total - sum(gives) - sum(takes))
        return bound

    def test_no_words_and_one(self):
        self.assertEqual(prices_of(Family([])), ((), ()))
        self.assertEqual(prices_of(Family(["abab", "ab"])), ((0,), (0,)))
        self.assertEqual(self.check(Family(["aaaa"])), 4)

    def test_known_bounds(self):
        self.assertEqual(self.check(Family(["abc", "bcd", "cda"])), 4)
        self.assertEqual(self.check(Family(["aaaa", "bbbb"])), 8)
        self.assertEqual(self.check(Family(["ab", "ba"])), 2)
        self.assertEqual(self.check(Family(["aab", "abb", "cab"])), 7)

    def test_no_right_paper_tells_more(self):
        source = random.Random(43)
        for _ in range(12):
            family = Family(some_pieces(source, 3, "ab", 4))
            many = family.many()
            rows = itertools.product(range(4), repeat=2 * many)
            best = max(family.total - sum(row) for row in rows if is_right(family, row[:many], row[many:]))
            self.assertEqual(self.check(family), best)

    def test_joins_show_that_none_tells_more(self):
        source = random.Random(44)
        for _ in range(60):
            family = Family(some_pieces(source, 6, "ab", 7))
            numbers = range(family.many())
            most = max(sum(family.laps[i][j] for i, j in enumerate(order) if i != j)
                       for order in itertools.permutations(numbers))
            bound = self.check(family)
            self.assertEqual(bound, family.total - most)
            self.assertLessEqual(bound, least_length(family))

    def test_forty_words(self):
        source = random.Random(45)
        with soon():
            for letters, signs in (("ab", 60), ("ab", 10), ("abc", 4)):
                self.check(Family(["".join(source.choice(letters) for _ in range(signs)) for _ in range(40)]))

    def test_of_the_same_pieces_the_same(self):
        source = random.Random(46)
        for _ in range(20):
            pieces = some_pieces(source, 7, "ab", 6)
            family = Family(pieces)
            first = prices_of(family)
            prices_of(Family(["xy", "yz"]))
            self.assertEqual(prices_of(family), first)
            self.assertEqual(prices_of(Family(tuple(pieces))), first)


if __name__ == "__main__":
    unittest.main()
