"""[24], [25], [26]: tables of sets."""

import itertools
import random
import unittest

from shortglue.errors import NoTable, TooGreat
from shortglue.families import Family
from shortglue.orders import saved, text_of
from shortglue.shortest import shortest
from shortglue.tables import is_table, order_by, table_bound, table_of
from things import as_lists, is_plain, odd_things, some_pieces, soon, words_of_length


def laps_along(family, order):
    return sum(family.laps[i][j] for i, j in zip(order, order[1:]))


def table_by_hand(family):
    """The table of [24], over all orders of each set."""
    many = family.many()
    rows = []
    for mark in range(2 ** many):
        inside = [i for i in range(many) if mark // 2 ** i % 2 == 1]
        row = [-1] * many
        for order in itertools.permutations(inside):
            if order:
                row[order[-1]] = max(row[order[-1]], laps_along(family, order))
        rows.append(tuple(row))
    return tuple(rows)


def is_right_by_hand(family, paper):
    """Whether rows of whole numbers keep to [25]."""
    many = family.many()
    for mark, i in itertools.product(range(2 ** many), range(many)):
        inside = [j for j in range(many) if mark // 2 ** j % 2 == 1]
        if i not in inside:
            if paper[mark][i] != -1:
                return False
        elif inside == [i]:
            if paper[mark][i] < 0:
                return False
        elif any(paper[mark][i] < paper[mark - 2 ** i][j] + family.laps[j][i] for j in inside if j != i):
            return False
    return True


def some_right_table(source, family):
    """A table that keeps to [25] with numbers that are often greater than they need be."""
    many = family.many()
    rows = []
    for mark in range(2 ** many):
        row = []
        for i in range(many):
            inside = [j for j in range(many) if mark // 2 ** j % 2 == 1 and j != i]
            least = max([rows[mark - 2 ** i][j] + family.laps[j][i] for j in inside] + [0]) if mark // 2 ** i % 2 else -1
            row.append(least + source.choice((0, 0, 0, 1, 5)) if least >= 0 else -1)
        rows.append(row)
    return rows


EIGHT = Family(words_of_length(random.Random(61), 8, "ab", 6))
NINE = Family(words_of_length(random.Random(62), 9, "ab", 6))


class TableOf(unittest.TestCase):
    def test_no_words_and_few(self):
        self.assertEqual(table_of(Family([])), ((),))
        self.assertEqual(table_of(Family(["aba", "a"])), ((-1,), (0,)))
        self.assertEqual(table_of(Family(["abc", "bcd"])), ((-1, -1), (0, -1), (-1, 0), (0, 2)))
        family = Family(["abc", "bcd", "cda"])
        self.assertEqual(table_of(family), ((-1, -1, -1), (0, -1, -1), (-1, 0, -1), (0, 2, -1),
                                            (-1, -1, 0), (1, -1, 1), (-1, 0, 2), (3, 3, 4)))

    def test_against_all_orders_of_each_set(self):
        source = random.Random(63)
        for _ in range(60):
            family = Family(some_pieces(source, source.randrange(0, 6), "ab", 6))
            table = table_of(family)
            self.assertEqual(table, table_by_hand(family))
            self.assertTrue(is_plain(table))

    def test_eight_words(self):
        self.assertEqual(EIGHT.many(), 8)
        with soon():
            table = table_of(EIGHT)
        self.assertEqual((len(table), {len(row) for row in table}), (256, {8}))
        self.assertEqual(max(table[-1]), EIGHT.total - len(shortest(EIGHT)))

    def test_nine_words(self):
        for family in (NINE, Family(list(NINE.pieces) + ["a"]), Family([chr(97 + k) for k in range(20)])):
            with self.assertRaises(TooGreat) as caught:
                table_of(family)
            self.assertEqual(caught.exception.most, 8)
        self.assertEqual(len(table_of(Family(list(EIGHT.pieces) + ["a", "b"]))), 256)

    def test_asked_again(self):
        family = Family(["abc", "bcd", "cda"])
        first = table_of(family)
        table_of(Family(["xy", "yz"]))
        self.assertEqual(table_of(family), first)


class TableBound(unittest.TestCase):
    family = Family(["abc", "bcd", "b", "cda"])
    table = table_of(family)

    def none(self, paper, family=None):
        self.assertIsNone(table_bound(family or self.family, paper))

    def test_the_table_itself(self):
        self.assertEqual(table_bound(self.family, self.table), 5)
        self.assertEqual(table_bound(self.family, as_lists(self.table)), 5)
        self.assertEqual(table_bound(self.family, list(self.table)), 5)
        self.assertEqual(table_bound(Family([]), ((),)), 0)
        self.assertEqual(table_bound(Family([]), [[]]), 0)
        self.assertEqual(table_bound(Family(["aba"]), [(-1,), [0]]), 3)
        self.assertEqual(table_bound(EIGHT, table_of(EIGHT)), len(shortest(EIGHT)))

    def test_greater_numbers(self):
        self.assertEqual(table_bound(Family(["aba"]), [[-1], [2]]), 1)
        self.assertEqual(table_bound(Family(["aba"]), [[-1], [10 ** 30]]), 3 - 10 ** 30)
        source = random.Random(64)
        for _ in range(80):
            family = Family(some_pieces(source, source.randrange(0, 5), "ab", 6))
            paper = some_right_table(source, family)
            self.assertTrue(is_right_by_hand(family, paper))
            bound = table_bound(family, paper)
            self.assertEqual(bound, family.total - max(paper[-1], default=0))
            self.assertLessEqual(bound, len(shortest(family)))

    def test_one_number_changed(self):
        source = random.Random(65)
        right = wrong = 0
        for _ in range(25):
            family = Family(some_pieces(source, 3, "ab", 5))
            table = source.choice((table_of(family), some_right_table(source, family)))
            for mark, i in itertools.product(range(len(table)), range(family.many())):
                for change in (-2, -1, 1, 7):
                    paper = as_lists(table)
                    paper[mark][i] += change
                    if is_right_by_hand(family, paper):
                        self.assertEqual(table_bound(family, paper), family.total - max(paper[-1]))
                        right += 1
                    else:
                        self.none(paper, family)
                        wrong += 1
        self.assertGreater(min(right, wrong), 50)

    def test_less_than_the_table(self):
        for mark, i in itertools.product(range(8), range(3)):
            paper = as_lists(self.table)
            paper[mark][i] -= 1
            self.none(paper)

    def test_outside_and_within_the_sets(self):
        for mark, i in itertools.product(range(8), range(3)):
            for number in (-2, 0, 3) if self.table[mark][i] == -1 else (-1, -2):
                paper = as_lists(self.table)
                paper[mark][i] = number
                self.none(paper)

    def test_another_form(self):
        rows = as_lists(self.table)
        self.none(rows[:-1])
        self.none(rows + [rows[-1]])
        self.none(rows[1:])
        self.none([row[:2] for row in rows])
        self.none(rows[:-1] + [rows[-1][:2]])
        self.none(rows[:-1] + [rows[-1] + [0]])
        self.none([rows[0] + [-1]] + rows[1:])
        self.none({mark: row for mark, row in enumerate(rows)})
        self.none([], Family([]))
        self.none([[], []], Family([]))
        self.none([[0]], Family([]))
        self.none([[-1]], Family(["ab"]))
        self.none([[-1], [0], [0]], Family(["ab"]))

    def test_numbers_of_another_kind(self):
        for thing in (None, "1", (1,), [], True, False, {}):
            for mark, i in itertools.product(range(8), range(3)):
                paper = as_lists(self.table)
                paper[mark][i] = thing
                self.none(paper)
        self.none([[-1], [False]], Family(["ab"]))
        self.none([[-1], [True]], Family(["ab"]))

    def test_more_than_eight_words(self):
        self.none(None, NINE)
        self.none([[-1] * 9] * 512, NINE)
        with soon():
            right = [[50 * bin(mark).count("1") if mark >> i & 1 else -1 for i in range(9)] for mark in range(512)]
            self.none(right, NINE)
        right = [[50 * bin(mark).count("1") if mark >> i & 1 else -1 for i in range(8)] for mark in range(256)]
        self.assertEqual(table_bound(EIGHT, right), EIGHT.total - 400)

    def test_whatever_it_is(self):
        for number, thing in enumerate(odd_things()):
            with self.subTest(number):
                for family in (self.family, Family(["ab"]), Family(["ab", "bc"]), NINE):
                    self.none(thing, family)
                if thing not in ([[]], ((),), [()]):
                    self.none(thing, Family([]))
                self.none(list(self.table[:-1]) + [thing])

    def test_what_is_handed_in_stays(self):
        paper = as_lists(self.table)
        for _ in range(2):
            self.assertEqual(table_bound(self.family, paper), 5)
            self.assertIs(is_table(self.family, paper), True)
            self.assertEqual(order_by(self.family, paper), (0, 1, 2))
        self.assertEqual(paper, as_lists(self.table))


class IsTable(unittest.TestCase):
    family = Family(["abc", "bcd", "cda"])
    table = table_of(family)

    def test_the_right_table(self):
        for family in (self.family, Family([]), Family(["aba"]), EIGHT):
            table = table_of(family)
            for paper in (table, as_lists(table), list(table), tuple(as_lists(table))):
                self.assertIs(is_table(family, paper), True)

    def test_one_number_changed(self):
        for mark, i in itertools.product(range(8), range(3)):
            for change in (-1, 1, 10 ** 5000):
                paper = as_lists(self.table)
                paper[mark][i] += change
                self.assertIs(is_table(self.family, paper), False)

    def test_things_of_another_kind(self):
        for mark, i in itertools.product(range(8), range(3)):
            for thing in (None, "1", True, False, [self.table[mark][i]]):
                paper = as_lists(self.table)
                paper[mark][i] = thing
                self.assertIs(is_table(self.family, paper), False)
        self.assertIs(is_table(self.family, self.table[:-1]), False)
        self.assertIs(is_table(self.family, self.table + ((),)), False)
        self.assertIs(is_table(self.family, dict(enumerate(self.table))), False)
        self.assertIs(is_table(Family(["ab"]), [[-1], [False]]), False)

    def test_whatever_it_is(self):
        for number, thing in enumerate(odd_things()):
            with self.subTest(number):
                empty = thing in ([[]], ((),), [()])
                self.assertIs(is_table(Family([]), thing), empty)
                for family in (self.family, Family(["ab"]), NINE):
                    self.assertIs(is_table(family, thing), False)
                self.assertIs(is_table(self.family, self.table[:-1] + (thing,)), False)

    def test_more_than_eight_words(self):
        self.assertIs(is_table(NINE, table_by_hand(Family(NINE.words[:3]))), False)
        self.assertIs(is_table(NINE, [[-1] * 9] * 512), False)
        words = [chr(97 + k) for k in range(9)]
        right = [[0 if mark >> i & 1 else -1 for i in range(9)] for mark in range(512)]
        self.assertIs(is_table(Family(words), right), False)
        self.assertIs(is_table(Family(words[:8]), [row[:8] for row in right[:256]]), True)


def order_by_hand(family, table):
    """The order of [26], read out word by word."""
    left = list(range(family.many()))
    order = []
    while left:
        mark = sum(2 ** i for i in left)
        if not order:
            best = [i for i in left if table[mark][i] == max(table[mark])]
        else:
            last = order[0]
            whole = mark + 2 ** last
            best = [j for j in left if table[mark][j] + family.laps[j][last] == table[whole][last]]
        order.insert(0, min(best))
        left.remove(order[0])
    return tuple(order)


class OrderBy(unittest.TestCase):
    def test_no_words_and_one(self):
        self.assertEqual(order_by(Family([]), ((),)), ())
        self.assertEqual(order_by(Family([]), [[]]), ())
        self.assertEqual(order_by(Family(["aba"]), [[-1], [0]]), (0,))

    def test_several_least(self):
        for many in range(2, 6):
            family = Family([chr(97 + k) for k in range(many)])
            self.assertEqual(order_by(family, table_of(family)), tuple(range(many))[::-1])
        family = Family(["ab", "ba"])
        self.assertEqual(order_by(family, table_of(family)), (1, 0))
        family = Family(["xa", "ya", "az"])
        self.assertEqual(order_by(family, table_of(family)), (1, 2, 0))

    def test_a_word_outside_the_set(self):
        family = Family(["ba", "a", "c", "ab"])
        self.assertEqual(family.laps, ((0, 0, 1), (0, 0, 0), (1, 0, 0)))
        self.assertEqual(order_by(family, table_of(family)), (1, 2, 0))

    def test_small_families(self):
        source = random.Random(66)
        for _ in range(200):
            family = Family(some_pieces(source, source.randrange(0, 8), source.choice(("ab", "abc")), 5))
            table = table_of(family)
            order = order_by(family, table)
            self.assertEqual(order, order_by_hand(family, table))
            self.assertTrue(is_plain(order))
            self.assertEqual(order_by(family, as_lists(table)), order)
            self.assertEqual(len(text_of(family, order)), len(shortest(family)))
            self.assertEqual(saved(family, order), max(table[-1], default=0))

    def test_eight_words(self):
        self.assertEqual(len(text_of(EIGHT, order_by(EIGHT, table_of(EIGHT)))), len(shortest(EIGHT)))

    def refused(self, family, table):
        with self.assertRaises(NoTable):
            order_by(family, table)

    def test_no_table(self):
        family = Family(["abc", "bcd", "cda"])
        table = table_of(family)
        for mark, i in itertools.product(range(8), range(3)):
            for change in (-1, 1):
                paper = as_lists(table)
                paper[mark][i] += change
                self.refused(family, paper)
        self.refused(family, table[:-1])
        self.refused(family, table_of(Family(["ab", "bc"])))
        self.refused(family, table_of(Family(["x", "y", "z"])))
        self.refused(NINE, [[-1] * 9] * 512)

    def test_whatever_it_is(self):
        for number, thing in enumerate(odd_things()):
            with self.subTest(number):
                for family in (Family(["abc", "bcd"]), Family(["ab"]), NINE):
                    self.refused(family, thing)
                if thing not in ([[]], ((),), [()]):
                    self.refused(Family([]), thing)


if __name__ == "__main__":
    unittest.main()
