"""[17], [18], [19]: greedy joins."""

import itertools
import random
import unittest

from shortglue.errors import NoOrder
from shortglue.families import Family
from shortglue.greedy import greedy, is_greedy, order_of_joins
from shortglue.orders import saved
from things import all_texts, is_plain, odd_things, some_pieces


def last_of(joins, i):
    """The last word of the chain that goes on from word i."""
    followers = {a: b for a, b, k in joins}
    while i in followers:
        i = followers[i]
    return i


def greedy_by_hand(family):
    """The joins of [17], each time of all that may still be made."""
    joins = []
    numbers = range(family.many())
    while len(joins) < family.many() - 1:
        may = []
        for i, j in itertools.permutations(numbers, 2):
            taken = any(i == a or j == b for a, b, k in joins)
            if not taken and last_of(joins, j) != i:
                may.append((-family.laps[i][j], i, j))
        less, i, j = min(may)
        joins.append((i, j, -less))
    return tuple(joins)


class Greedy(unittest.TestCase):
    def test_no_words_and_one(self):
        self.assertEqual(greedy(Family([])), ())
        self.assertEqual(greedy(Family(["abab", "ab"])), ())

    def test_the_greatest_lap_first(self):
        family = Family(["abc", "cdefg", "efghi"])
        self.assertEqual(greedy(family), ((1, 2, 3), (0, 1, 1)))

    def test_like_laps(self):
        self.assertEqual(greedy(Family(["ab", "cd", "ef"])), ((0, 1, 0), (1, 2, 0)))
        self.assertEqual(greedy(Family(["xa", "ay", "az"])), ((0, 1, 1), (1, 2, 0)))
        self.assertEqual(greedy(Family(["az", "ya", "xa"])), ((1, 0, 1), (0, 2, 0)))
        self.assertEqual(greedy(Family(["ya", "xa", "az"])), ((0, 2, 1), (1, 0, 0)))

    def test_no_ring(self):
        self.assertEqual(greedy(Family(["ab", "ba"])), ((0, 1, 1),))
        self.assertEqual(greedy(Family(["abc", "bca", "cab"])), ((0, 1, 2), (1, 2, 2)))
        family = Family(["abab", "baba", "xx"])
        self.assertEqual(greedy(family), ((0, 1, 3), (1, 2, 0)))
        family = Family(["aab", "aba", "baa", "cc"])
        self.assertEqual(greedy(family), ((0, 1, 2), (1, 2, 2), (2, 3, 0)))

    def test_by_hand(self):
        source = random.Random(21)
        for _ in range(250):
            family = Family(some_pieces(source, source.randrange(0, 9), "ab", 6))
            joins = greedy(family)
            self.assertEqual(joins, greedy_by_hand(family))
            self.assertTrue(is_plain(joins))
            self.assertEqual(len(joins), max(family.many() - 1, 0))

    def test_forty_words(self):
        source = random.Random(22)
        for letters, signs in (("ab", 60), ("ab", 8), ("abc", 3)):
            family = Family(["".join(source.choice(letters) for _ in range(signs)) for _ in range(40)])
            joins = greedy(family)
            self.assertEqual(joins, greedy_by_hand(family))
            order = order_of_joins(joins, family.many())
            self.assertEqual(saved(family, order), sum(k for i, j, k in joins))

    def test_asked_again(self):
        family = Family(["abc", "bca", "cab"])
        first = greedy(family)
        greedy(Family(["xy", "yz"]))
        self.assertEqual(greedy(family), first)
        self.assertEqual(family.words, ("abc", "bca", "cab"))


def chain_by_hand(joins, many):
    """The order whose neighbours are these joins, or None."""
    pairs = sorted((i, j) for i, j, k in joins)
    for order in itertools.permutations(range(many)):
        if sorted(zip(order, order[1:])) == pairs:
            return order
    return None


class OrderOfJoins(unittest.TestCase):
    def refused(self, joins, many):
        with self.assertRaises(NoOrder):
            order_of_joins(joins, many)

    def test_nothing_to_join(self):
        for joins in ((), []):
            self.assertEqual(order_of_joins(joins, 0), ())
            self.assertEqual(order_of_joins(joins, 1), (0,))
        for many in (0, 1):
            self.refused([(0, 0, 0)], many)
            self.refused([(0, 1, 0)], many)
            self.refused({}, many)
            self.refused("", many)
            self.refused(None, many)

    def test_joins_in_any_order(self):
        for order in itertools.permutations(range(4)):
            chain = [(i, j, 7) for i, j in zip(order, order[1:])]
            for joins in itertools.permutations(chain):
                self.assertEqual(order_of_joins(joins, 4), order)
                self.assertEqual(order_of_joins([list(row) for row in joins], 4), order)

    def test_any_whole_number_as_k(self):
        for k in (0, 1, -1, 60, 10 ** 5000, -(10 ** 5000)):
            self.assertEqual(order_of_joins([(1, 0, k)], 2), (1, 0))
        for k in (True, False, None, "a", [0], ()):
            self.refused([(1, 0, k)], 2)

    def test_all_joins_of_few_things(self):
        for many in (2, 3):
            pairs = list(itertools.product(range(-1, many + 1), repeat=2))
            for chosen in itertools.product(pairs, repeat=many - 1):
                joins = [(i, j, 0) for i, j in chosen]
                wanted = chain_by_hand(joins, many)
                if wanted is None:
                    self.refused(joins, many)
                else:
                    self.assertEqual(order_of_joins(joins, many), wanted)

    def test_what_makes_no_chain(self):
        self.refused([(0, 1, 0), (1, 0, 0)], 3)
        self.refused([(0, 1, 0), (1, 2, 0), (2, 0, 0)], 4)
        self.refused([(0, 1, 0), (1, 2, 0), (2, 1, 0)], 4)
        self.refused([(0, 1, 0), (2, 3, 0), (3, 2, 0)], 4)
        self.refused([(0, 1, 0), (0, 2, 0)], 3)
        self.refused([(0, 2, 0), (1, 2, 0)], 3)
        self.refused([(0, 1, 0), (0, 1, 0)], 3)
        self.refused([(2, 2, 0), (0, 1, 0)], 3)
        self.refused([(0, 3, 0), (3, 1, 0)], 3)
        self.refused([(0, 10 ** 5000, 0)], 2)
        self.refused([(-1, 0, 0)], 2)
        self.refused([(0, -1, 0)], 2)

    def test_as_many_rows_as_asked(self):
        self.refused([(0, 1, 0)], 3)
        self.refused([(0, 1, 0), (1, 2, 0)], 2)
        self.refused([(0, 1, 0), (0, 1, 0)], 2)
        self.refused([], 2)

    def test_rows_of_other_forms(self):
        for row in ((0, 1), (0, 1, 0, 0), (False, 1, 0), (0, True, 0), "abc", {0: 0, 1: 1, 2: 2}, (), None, 0, (0, "1", 0)):
            self.refused([row], 2)
            self.refused((row,), 2)

    def test_whatever_it_is(self):
        for number, thing in enumerate(odd_things()):
            with self.subTest(number):
                self.refused(thing, 2)
                self.refused(thing, 4)
                self.refused([(0, 1, 0), thing], 3)
                if not (isinstance(thing, (list, tuple)) and len(thing) == 0):
                    self.refused(thing, 0)
                    self.refused(thing, 1)
                if not isinstance(thing, int) or isinstance(thing, bool):
                    self.refused([(thing, 1, 0)], 2)
                    self.refused([(0, thing, 0)], 2)

    def test_forty_things(self):
        source = random.Random(23)
        order = list(range(40))
        source.shuffle(order)
        joins = [(i, j, source.randrange(-5, 5)) for i, j in zip(order, order[1:])]
        source.shuffle(joins)
        kept = list(joins)
        for _ in range(2):
            self.assertEqual(order_of_joins(joins, 40), tuple(order))
        self.assertEqual(joins, kept)
        self.assertTrue(is_plain(order_of_joins(joins, 40)))


class IsGreedy(unittest.TestCase):
    family = Family(["abc", "cdefg", "efghi", "iab"])
    joins = ((1, 2, 3), (3, 0, 2), (0, 1, 1))

    def test_the_right_joins(self):
        self.assertEqual(greedy(self.family), self.joins)
        self.assertIs(is_greedy(self.family, self.joins), True)
        self.assertIs(is_greedy(self.family, [list(row) for row in self.joins]), True)
        self.assertIs(is_greedy(self.family, [(1, 2, 3), [3, 0, 2], (0, 1, 1)]), True)

    def test_no_words_and_one(self):
        for family in (Family([]), Family(["aba"])):
            for joins in ((), []):
                self.assertIs(is_greedy(family, joins), True)
            for joins in ({}, "", None, 0, False, [()], [(0, 0, 1)]):
                self.assertIs(is_greedy(family, joins), False)

    def test_wrong_at_one_place(self):
        for at in range(3):
            for place in range(3):
                for other in (-1, 0, 1, 2, 3, 4, None, "a", True, 10 ** 5000):
                    rows = [list(row) for row in self.joins]
                    if other is not True and rows[at][place] == other:
                        continue
                    rows[at][place] = other
                    self.assertIs(is_greedy(self.family, rows), False)

    def test_another_order_or_number_of_rows(self):
        for joins in itertools.permutations(self.joins):
            self.assertIs(is_greedy(self.family, joins), joins == self.joins)
        self.assertIs(is_greedy(self.family, self.joins[:2]), False)
        self.assertIs(is_greedy(self.family, self.joins + ((2, 3, 1),)), False)
        self.assertIs(is_greedy(self.family, self.joins[:2] + ((0, 1),)), False)
        self.assertIs(is_greedy(self.family, self.joins[:2] + ((0, 1, 1, 0),)), False)
        self.assertIs(is_greedy(self.family, ((3, 0, 2), (1, 2, 3), (0, 1, 1))), False)

    def test_true_in_the_place_of_one(self):
        family = Family(["ab", "bc"])
        self.assertIs(is_greedy(family, [(0, 1, 1)]), True)
        for row in ((0, 1, True), (0, True, 1), (False, 1, 1)):
            self.assertIs(is_greedy(family, [row]), False)

    def test_other_chains_that_save_as_much(self):
        family = Family(["ab", "cd"])
        self.assertIs(is_greedy(family, [(0, 1, 0)]), True)
        self.assertIs(is_greedy(family, [(1, 0, 0)]), False)

    def test_whatever_it_is(self):
        for number, thing in enumerate(odd_things()):
            with self.subTest(number):
                self.assertIs(is_greedy(self.family, thing), False)
                self.assertIs(is_greedy(self.family, [(1, 2, 3), thing, (0, 1, 1)]), False)

    def test_what_is_handed_in_stays(self):
        joins = [list(row) for row in self.joins]
        for _ in range(2):
            self.assertIs(is_greedy(self.family, joins), True)
        self.assertEqual(joins, [list(row) for row in self.joins])


class Half(unittest.TestCase):
    def check(self, family):
        got = saved(family, order_of_joins(greedy(family), family.many()))
        best = max(saved(family, order) for order in itertools.permutations(range(family.many())))
        self.assertGreaterEqual(2 * got, best)
        return got, best

    def test_all_orders_of_small_families(self):
        source = random.Random(24)
        less = 0
        for _ in range(150):
            got, best = self.check(Family(some_pieces(source, 6, "ab", 7)))
            less += got < best
        self.assertGreater(less, 0)

    def test_all_families_of_three(self):
        for pieces in itertools.combinations(all_texts("ab", 3, 2), 3):
            self.check(Family(pieces))

    def test_a_family_that_comes_near_half(self):
        for many in range(1, 8):
            family = Family(["c" + "ab" * many, "ba" * many, "ab" * many + "d"])
            got, best = self.check(family)
            self.assertEqual((got, best), (2 * many, 4 * many - 2))


if __name__ == "__main__":
    unittest.main()
