"""[13], [15] to [18], [21], [22], [32], [35]: thirteen to forty words are told like fewer ones."""

import random
import unittest

from shortglue.families import Family
from shortglue.greedy import greedy, is_greedy, order_of_joins
from shortglue.holding import is_holding, order_in, settled
from shortglue.orders import is_order, saved, starts_of, text_of
from shortglue.pairing import best_pairing, is_pairing_paper
from shortglue.prices import price_bound, prices_of
from shortglue.rings import by_rings, opened, rings_of, weight
from shortglue.rounds import is_round_held, round_of, round_order
from shortglue.turning import Turnable, is_ways, turn_price_bound, ways_in, ways_text
from things import is_plain, soon, words_of_length


def some_orders(source, many):
    orders = [list(range(many)), list(range(many))[::-1]]
    for _ in range(3):
        orders.append(source.sample(range(many), many))
    return orders


def greedy_by_hand(family):
    """Again and again the best of all joins that may still be made, as [17] says it."""
    chain = {number: number for number in range(family.many())}
    giving, taking, joins = set(chain), set(chain), []
    while len(joins) < family.many() - 1:
        free = [(-family.laps[i][j], i, j) for i in giving for j in taking if chain[i] != chain[j]]
        less, i, j = min(free)
        joins.append((i, j, -less))
        giving.remove(i)
        taking.remove(j)
        gone = chain[j]
        chain = {number: chain[i] if mark == gone else mark for number, mark in chain.items()}
    return tuple(joins)


class ManyWords(unittest.TestCase):
    def families(self):
        """Families of 13, 14, 26, 39 and 40 words, that lap seldom and often."""
        source = random.Random(151)
        for many in (13, 14, 26, 39, 40):
            for letters, signs in (("ab", 7), ("ab", 60), ("abcd", 3)):
                family = Family(words_of_length(source, many, letters, signs))
                self.assertEqual(family.many(), many)
                yield source, family, many
        text = "".join(source.choice("ab") for _ in range(400))
        family = Family([text[at:at + 20] for at in range(0, 380, 9)][:40])
        yield source, family, family.many()

    def test_orders(self):
        for source, family, many in self.families():
            for order in some_orders(source, many):
                self.assertIs(is_order(order, many), True)
                text, starts = text_of(family, order), starts_of(family, tuple(order))
                self.assertEqual(len(text), family.total - saved(family, order))
                self.assertIs(is_holding(text, family.words, starts), True)
                self.assertEqual(sorted(range(many), key=lambda number: starts[number]), order)
                read = order_in(family, text)
                self.assertLessEqual(len(text_of(family, read)), len(text))
                last = settled(family, order)
                self.assertEqual(order_in(family, text_of(family, last)), last)
                self.assertTrue(is_plain((starts, read, last)))

    def test_joins(self):
        with soon(60):
            for source, family, many in self.families():
                joins = greedy(family)
                self.assertEqual(joins, greedy_by_hand(family))
                self.assertIs(is_greedy(family, [list(join) for join in joins]), True)
                order = order_of_joins(joins, many)
                self.assertIs(is_order(order, many), True)
                self.assertEqual(saved(family, order), sum(k for i, j, k in joins))
                self.assertEqual(list(zip(order, order[1:])), sorted([(i, j) for i, j, k in joins],
                                                                     key=lambda join: order.index(join[0])))

    def test_prices_and_rings(self):
        for source, family, many in self.families():
            short = min(len(text_of(family, order)) for order in [by_rings(family), order_of_joins(greedy(family), many)])
            bound = price_bound(family, prices_of(family))
            self.assertLessEqual(bound, short)
            self.assertIs(is_pairing_paper(family.laps, best_pairing(family.laps)), True)
            rings = rings_of(family)
            self.assertEqual(sorted(number for ring in rings for number in ring), list(range(many)))
            weights = sum(weight(family, ring) for ring in rings)
            self.assertLessEqual(weights, short)
            rows = [opened(family, ring) for ring in rings]
            self.assertEqual(by_rings(family), tuple(number for row in rows for number in row))
            whole = tuple(range(many))
            laps = sum(family.laps[i][(i + 1) % many] for i in range(many))
            self.assertEqual(weight(family, whole), family.total - laps)
            self.assertEqual(sorted(opened(family, whole)), list(whole))

    def test_round_texts(self):
        for source, family, many in self.families():
            for order in some_orders(source, many):
                ring = round_of(family, order)
                places, at = {}, 0
                for before, number in zip(order, order[1:] + order[:1]):
                    places[before] = at
                    at += len(family.words[before]) - family.laps[before][number]
                self.assertEqual(len(ring), at)
                self.assertIs(is_round_held(ring, family.words, [places[number] for number in range(many)]), True)
                read = round_order(family, ring)
                self.assertIs(is_order(read, many), True)
                self.assertEqual(read[0], 0)
                self.assertLessEqual(len(round_of(family, read)), len(ring))

    def test_ways(self):
        for source, family, _ in self.families():
            turnable = Turnable(family.words)
            many = turnable.many()
            for order in some_orders(source, many):
                ways = [(i, source.randrange(2)) for i in order]
                self.assertIs(is_ways(ways, many), True)
                text = ways_text(turnable, ways)
                read = ways_in(turnable, text)
                self.assertIs(is_ways(read, many), True)
                self.assertLessEqual(len(ways_text(turnable, read)), len(text))
                gives = [max(row) for row in turnable.laps]
                bound = turn_price_bound(turnable, (gives, [0] * (2 * many)))
                self.assertEqual(bound, turnable.total - sum(max(gives[2 * i:2 * i + 2]) for i in range(many)))
                self.assertLessEqual(bound, len(text))

    def test_forty_turnable_words(self):
        source = random.Random(152)
        words = []
        while len(words) < 40:
            word = "".join(source.choice("ab") for _ in range(9))
            if word not in words and word[::-1] not in words:
                words.append(word)
        turnable = Turnable(words)
        self.assertEqual((turnable.many(), len(turnable.laps)), (40, 80))
        ways = [(i, i & 1) for i in range(40)]
        text = ways_text(turnable, ways)
        self.assertLessEqual(len(ways_text(turnable, ways_in(turnable, text))), len(text))


if __name__ == "__main__":
    unittest.main()
