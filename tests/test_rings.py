"""[22], [23]: rings of words."""

import itertools
import random
import unittest

from shortglue.errors import NoRing
from shortglue.families import Family
from shortglue.orders import is_order, text_of
from shortglue.pairing import best_pairing
from shortglue.rings import by_rings, opened, rings_of, weight
from shortglue.shortest import shortest
from things import as_lists, is_plain, odd_things, some_pieces, words_of_length


def joins(ring):
    return [(ring[at - 1], ring[at]) for at in range(1, len(ring))] + [(ring[-1], ring[0])]


def cut_lap(family, ring):
    """The least lap of a ring's joins, at which it is opened."""
    return min(family.laps[i][j] for i, j in joins(ring))


class Weight(unittest.TestCase):
    family = Family(["abc", "bcd", "b", "cdab"])

    def test_rings_of_several_sizes(self):
        self.assertEqual(self.family.laps, ((0, 2, 1), (0, 0, 2), (2, 1, 0)))
        self.assertEqual(weight(self.family, (0,)), 3)
        self.assertEqual(weight(self.family, [2]), 4)
        self.assertEqual(weight(self.family, (0, 1)), 4)
        self.assertEqual(weight(self.family, [1, 0]), 4)
        self.assertEqual(weight(self.family, (0, 1, 2)), 4)
        self.assertEqual(weight(self.family, [0, 2, 1]), 8)

    def test_one_alone_by_itself(self):
        self.assertEqual(weight(Family(["abab"]), (0,)), 2)
        self.assertEqual(weight(Family(["aaaa", "xyx"]), [0]), 1)
        self.assertEqual(weight(Family(["aaaa", "xyx"]), [1]), 2)

    def test_by_the_laps(self):
        source = random.Random(51)
        for _ in range(80):
            family = Family(some_pieces(source, 5, "ab", 6))
            for many in range(1, family.many() + 1):
                for ring in itertools.permutations(range(family.many()), many):
                    wanted = sum(len(family.words[i]) - family.laps[i][j] for i, j in joins(ring))
                    self.assertEqual(weight(family, ring), wanted)


class Opened(unittest.TestCase):
    def test_at_the_least_lap(self):
        family = Family(["abc", "bcd", "cdab"])
        self.assertEqual(family.laps, ((0, 2, 1), (0, 0, 2), (2, 1, 0)))
        self.assertEqual(opened(family, (0, 2, 1)), (0, 2, 1))
        self.assertEqual(opened(family, (2, 1, 0)), (0, 2, 1))
        self.assertEqual(opened(family, [1, 0, 2]), (0, 2, 1))
        family = Family(["axxb", "bxc", "cxaxx"])
        self.assertEqual(family.laps, ((0, 1, 0), (0, 0, 1), (3, 0, 0)))
        self.assertEqual(opened(family, [2, 0, 1]), (1, 2, 0))

    def test_of_several_the_first_join(self):
        family = Family(["abc", "bcd", "cdab"])
        self.assertEqual(opened(family, (0, 1, 2)), (1, 2, 0))
        self.assertEqual(opened(family, [1, 2, 0]), (2, 0, 1))
        self.assertEqual(opened(family, [2, 0, 1]), (0, 1, 2))
        self.assertEqual(opened(Family(["ab", "cd", "ef"]), (2, 0, 1)), (0, 1, 2))

    def test_a_word_alone(self):
        for words in (["ab"], ["aaa"], ["aaa", "xy"]):
            self.assertEqual(opened(Family(words), [0]), (0,))
        self.assertEqual(opened(Family(["aaa", "xyx"]), (1,)), (1,))

    def test_each_ring_of_small_families(self):
        source = random.Random(52)
        for _ in range(60):
            family = Family(some_pieces(source, 5, "ab", 6))
            for many in range(1, family.many() + 1):
                for ring in itertools.permutations(range(family.many()), many):
                    row = opened(family, list(ring))
                    self.assertTrue(is_plain(row))
                    laps = [family.laps[i][j] for i, j in joins(ring)]
                    start = (min(range(many), key=lambda at: laps[at]) + 1) % many
                    self.assertEqual(row, ring[start:] + ring[:start])


class Refusals(unittest.TestCase):
    family = Family(["abc", "bcd", "b", "cda"])

    def refused(self, ring, family=None):
        for ask in (weight, opened):
            with self.assertRaises(NoRing):
                ask(family or self.family, ring)

    def test_no_ring(self):
        for ring in ((), [], [0, 0], (0, 1, 0), [3], (0, 1, 3), [-1], (0, -1), [True], (0, True), (False, 1),
                     [0, 1, 2, 0], [0, 1, 2, 3], 0, 1, None, "0", "", {}, {0: 1}, [[0]], [None], ["0"], [0, None],
                     [10 ** 5000], [[]], [{}], ({},)):
            self.refused(ring)

    def test_whatever_it_is(self):
        for number, thing in enumerate(odd_things()):
            with self.subTest(number):
                if thing == (0, 2) and isinstance(thing, tuple):
                    self.assertEqual(weight(self.family, thing), 4)
                    continue
                self.refused(thing)
                self.refused([0, thing, 0])
                self.refused(thing, Family(["ab"]))
                self.refused(thing, Family([]))

    def test_no_words(self):
        self.refused([0], Family([]))
        self.refused([], Family([]))


class RingsOf(unittest.TestCase):
    def check(self, family):
        rings = rings_of(family)
        self.assertTrue(is_plain(rings))
        followers = best_pairing(family.laps)[0]
        self.assertEqual(sorted(pair for ring in rings for pair in joins(ring)), list(enumerate(followers)))
        self.assertEqual([ring[0] for ring in rings], sorted(min(ring) for ring in rings))
        order = by_rings(family)
        self.assertTrue(is_plain(order))
        self.assertTrue(is_order(order, family.many()))
        self.assertEqual(order, tuple(number for ring in rings for number in opened(family, ring)))
        return rings

    def test_no_words_and_one(self):
        self.assertEqual(rings_of(Family([])), ())
        self.assertEqual(by_rings(Family([])), ())
        self.assertEqual(self.check(Family(["aba"])), ((0,),))
        self.assertEqual(by_rings(Family(["aba"])), (0,))

    def test_known_rings(self):
        self.assertEqual(self.check(Family(["aaaa", "bbbb"])), ((0,), (1,)))
        self.assertEqual(self.check(Family(["abc", "cab", "bca"])), ((0, 2, 1),))
        family = Family(["xyx", "abab", "yxy", "cccc", "baba"])
        self.assertEqual(self.check(family), ((0, 2), (1, 4), (3,)))
        self.assertEqual(by_rings(family), (2, 0, 4, 1, 3))

    def test_small_and_great_families(self):
        source = random.Random(53)
        several = 0
        for _ in range(150):
            several += len(self.check(Family(some_pieces(source, source.randrange(0, 9), "ab", 6)))) > 1
        self.assertGreater(several, 30)
        for letters, signs in (("ab", 60), ("ab", 8), ("abc", 4)):
            self.check(Family(words_of_length(source, 40, letters, signs)))

    def test_asked_again(self):
        pieces = ["xyx", "abab", "yxy", "cccc", "baba"]
        family, ring = Family(pieces), [1, 4]
        told = [(rings_of(family), by_rings(family), weight(family, ring), opened(family, ring))]
        rings_of(Family(["ab", "ba"]))
        told.append((rings_of(Family(pieces)), by_rings(family), weight(family, ring), opened(family, ring)))
        self.assertEqual(told[0], told[1])
        self.assertEqual((pieces, ring), (["xyx", "abab", "yxy", "cccc", "baba"], [1, 4]))


class HowLong(unittest.TestCase):
    def check(self, family):
        least = len(shortest(family))
        rings = rings_of(family)
        weights = sum(weight(family, ring) for ring in rings)
        length = len(text_of(family, by_rings(family)))
        cuts = sum(cut_lap(family, ring) for ring in rings)
        self.assertLessEqual(weights, least)
        self.assertLessEqual(length, weights + cuts)
        self.assertLessEqual(length, least + cuts)
        self.assertLessEqual(length, 4 * least)
        return weights, length, least

    def test_known_families(self):
        self.assertEqual(self.check(Family([])), (0, 0, 0))
        self.assertEqual(self.check(Family(["aaaa"])), (1, 4, 4))
        self.assertEqual(self.check(Family(["ab", "ba"])), (2, 3, 3))
        self.assertEqual(self.check(Family(["abc", "bcd", "cda"])), (4, 5, 5))
        self.assertEqual(self.check(Family(["caa", "aaaa", "aad"])), (5, 8, 6))

    def test_no_pairing_weighs_less(self):
        source = random.Random(54)
        for _ in range(60):
            family = Family(some_pieces(source, 6, "ab", 6))
            orders = itertools.permutations(range(family.many()))
            most = max(sum(family.laps[i][j] for i, j in enumerate(order)) for order in orders)
            self.assertEqual(sum(weight(family, ring) for ring in rings_of(family)), family.total - most)

    def test_families_whose_shortest_text_is_known(self):
        source = random.Random(55)
        longer = 0
        for _ in range(150):
            letters = source.choice(("ab", "abc"))
            weights, length, least = self.check(Family(some_pieces(source, 8, letters, 8)))
            longer += length > least
        self.assertGreater(longer, 10)

    def test_rings_that_turn_often(self):
        for many in (2, 5, 12):
            family = Family(["ab" * many, "ba" * many, "aab" * many, "aba" * many, "baa" * many, "b" * many])
            self.check(family)
            self.check(Family(as_lists(family.words)[::-1]))


if __name__ == "__main__":
    unittest.main()
