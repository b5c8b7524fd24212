"""[28], [29], [30]: case papers."""

import itertools
import random
import unittest

from shortglue.casemaking import cases_of
from shortglue.cases import case_bound
from shortglue.errors import TooGreat
from shortglue.families import Family
from shortglue.shortest import shortest
from things import as_lists, is_plain, nested, odd_things, some_pieces, soon, words_of_length


def is_whole_from_nought(thing):
    return isinstance(thing, int) and not isinstance(thing, bool) and thing >= 0


class CaseByHand:
    """A case of [28], in its own words."""

    def __init__(self, family, joins=(), last=None):
        self.family = family
        self.joins = tuple(joins)
        self.last = last
        self.numbers = range(family.many())

    def gives(self, i):
        return i != self.last and all(a != i for a, b in self.joins)

    def takes(self, j):
        return all(b != j for a, b in self.joins)

    def is_open(self, i, j):
        return self.takes(j) and j != i and not self.leads_to(j, i)

    def leads_to(self, j, i):
        """Whether word i is reached from word j by fixed joins."""
        followers = dict(self.joins)
        while j in followers:
            j = followers[j]
            if j == i:
                return True
        return False

    def with_row(self, i, j):
        if j == -1:
            return CaseByHand(self.family, self.joins, i)
        return CaseByHand(self.family, self.joins + ((i, j),), self.last)

    def rows_of(self, i):
        return [-1] * (self.last is None) + [j for j in self.numbers if self.is_open(i, j)]


def told_by_hand(case, paper):
    """The number that a case paper tells by [29], or None if it's none."""
    many = case.family.many()
    if not isinstance(paper, (list, tuple)) or len(paper) != 3 or paper[0] not in ("end", "part"):
        return None
    if paper[0] == "end":
        for row in paper[1:]:
            if not isinstance(row, (list, tuple)) or len(row) != many or not all(map(is_whole_from_nought, row)):
                return None
        gives, takes = paper[1:]
        laps = case.family.laps
        for i, j in itertools.product(case.numbers, repeat=2):
            if case.gives(i) and case.is_open(i, j) and gives[i] + takes[j] < laps[i][j]:
                return None
        return (sum(laps[i][j] for i, j in case.joins) + sum(gives[i] for i in case.numbers if case.gives(i))
                + sum(takes[j] for j in case.numbers if case.takes(j)))
    i, rows = paper[1:]
    if not is_whole_from_nought(i) or i >= many or not case.gives(i) or not isinstance(rows, (list, tuple)):
        return None
    if not all(isinstance(row, (list, tuple)) and len(row) == 2 for row in rows):
        return None
    if any(not isinstance(row[0], int) or isinstance(row[0], bool) for row in rows):
        return None
    if [row[0] for row in rows] != case.rows_of(i):
        return None
    numbers = [told_by_hand(case.with_row(i, row[0]), row[1]) for row in rows]
    return None if None in numbers else max(numbers)


def bound_by_hand(family, paper):
    number = told_by_hand(CaseByHand(family), paper)
    return None if number is None else family.total - number


def some_paper(source, case, parts):
    """A right case paper with at most so many parts within one another, of lists and tuples."""
    row = source.choice((list, tuple))
    free = [i for i in case.numbers if case.gives(i)]
    if parts > 0 and free and source.randrange(5) > 0:
        i = source.choice(free)
        rows = [source.choice((list, tuple))([j, some_paper(source, case.with_row(i, j), parts - 1)])
                for j in case.rows_of(i)]
        return row(["part", i, source.choice((list, tuple))(rows)])
    laps = case.family.laps
    gives = [source.randrange(3) for _ in case.numbers]
    takes = [max([laps[i][j] - gives[i] for i in free if case.is_open(i, j)] + [0]) for j in case.numbers]
    takes = [number + source.choice((0, 0, 1)) for number in takes]
    return row(["end", source.choice((list, tuple))(gives), source.choice((list, tuple))(takes)])


def places_within(thing, way=()):
    """The ways to all things within nested rows."""
    ways = [way] if way else []
    if isinstance(thing, (list, tuple)):
        for at, item in enumerate(thing):
            ways += places_within(item, way + (at,))
    return ways


def changed(thing, way, change):
    """Nested rows, made anew as lists, with the thing at the end of a way changed."""
    rows = list(thing)
    rows[way[0]] = change(rows[way[0]]) if len(way) == 1 else changed(rows[way[0]], way[1:], change)
    return rows


def some_change(source, thing):
    """Another thing in the place of one within a paper."""
    if isinstance(thing, int):
        return source.choice((thing - 1, thing + 1, -1, 0, True, None, "1"))
    if isinstance(thing, str):
        return source.choice(("end", "part", "", None, 0))
    rows = list(thing)
    source.choice((rows.reverse, rows.clear, lambda: rows.append(0), lambda: rows.append(rows[-1] if rows else ()),
                   lambda: rows and rows.pop(), lambda: rows and rows.pop(0)))()
    return rows


NO_WORDS = Family([])
PAIR = Family(["ab", "ba"])
PAIR_PAPER = ("part", 0, ((-1, ("end", (0, 1), (0, 0))), (1, ("end", (0, 0), (0, 0)))))
THREE = Family(["abc", "bcd", "b", "cda"])
EIGHT = Family(words_of_length(random.Random(81), 8, "ab", 5))


class Ends(unittest.TestCase):
    def none(self, family, paper):
        self.assertIsNone(case_bound(family, paper))

    def test_no_words(self):
        for paper in (("end", (), ()), ["end", [], []], ("end", [], ())):
            self.assertEqual(case_bound(NO_WORDS, paper), 0)
        for paper in (("end", (0,), ()), ("end", (), (0,)), ("end", ()), ("end", (), (), ()), ("part", 0, ()),
                      ("part", -1, ()), ("part", 0, ((-1, ("end", (), ())),))):
            self.none(NO_WORDS, paper)

    def test_one_word(self):
        family = Family(["aba"])
        self.assertEqual(case_bound(family, ("end", (0,), (0,))), 3)
        self.assertEqual(case_bound(family, ["end", [2], (5,)]), -4)
        self.assertEqual(case_bound(family, ("part", 0, ((-1, ("end", (0,), (0,))),))), 3)
        self.assertEqual(case_bound(family, ("part", 0, [[-1, ["end", [7], [1]]]])), 2)
        for paper in (("end", (), ()), ("end", (-1,), (5,)), ("end", (5,), (-1,)), ("part", 0, ()),
                      ("part", 0, ((0, ("end", (0,), (0,))),)), ("part", 1, ((-1, ("end", (0,), (0,))),)),
                      ("part", -1, ((-1, ("end", (0,), (0,))),)),
                      ("part", 0, ((-1, ("part", 0, ((-1, ("end", (0,), (0,))),))),))):
            self.none(family, paper)

    def test_several_words(self):
        self.assertEqual(THREE.laps, ((0, 2, 1), (0, 0, 2), (1, 0, 0)))
        self.assertEqual(case_bound(THREE, ("end", (2, 2, 1), (0, 0, 0))), 4)
        self.assertEqual(case_bound(THREE, ["end", [0, 0, 0], [1, 2, 2]]), 4)
        self.assertEqual(case_bound(THREE, ("end", (2, 2, 2), (2, 2, 2))), -3)
        for at in range(3):
            gives = [2, 2, 1]
            gives[at] -= 1
            self.none(THREE, ("end", gives, (0, 0, 0)))

    def test_prices_of_another_form(self):
        for row in ((2, 2), (2, 2, 2, 2), (2, 2, -1), (2, True, 2), (2, 2, None), (2, "2", 2), {0: 2, 1: 2, 2: 2}, None,
                    "222", 2):
            self.none(THREE, ("end", row, (2, 2, 2)))
            self.none(THREE, ("end", (2, 2, 2), row))
        self.none(THREE, ("end", (2, 2, 2)))
        self.none(THREE, ("end", (2, 2, 2), (2, 2, 2), (2, 2, 2)))
        self.none(THREE, ("ends", (2, 2, 2), (2, 2, 2)))
        self.none(THREE, ("", (2, 2, 2), (2, 2, 2)))
        self.none(THREE, ((2, 2, 2), (2, 2, 2)))

    def test_its_own_lap_asks_nothing(self):
        self.assertEqual(case_bound(Family(["aaa", "bbb"]), ("end", (0, 0), (0, 0))), 6)


class Parts(unittest.TestCase):
    end = ("end", (2, 2, 2), (2, 2, 2))

    def none(self, family, paper):
        self.assertIsNone(case_bound(family, paper))

    def test_the_paper_of_the_point(self):
        self.assertEqual(PAIR.laps, ((0, 1), (1, 0)))
        self.assertEqual(case_bound(PAIR, PAIR_PAPER), 3)
        self.assertEqual(case_bound(PAIR, as_lists(PAIR_PAPER)), 3)
        for way in places_within(PAIR_PAPER):
            mixed = changed(PAIR_PAPER, way, lambda thing: list(thing) if isinstance(thing, tuple) else thing)
            self.assertEqual(case_bound(PAIR, mixed), 3)

    def test_the_greatest_of_its_rows(self):
        for first, second in ((1, 4), (4, 1), (3, 3)):
            paper = ("part", 0, ((-1, ("end", (0, first), (0, 0))), (1, ("end", (0, 0), (second, 0)))))
            self.assertEqual(case_bound(PAIR, paper), 4 - max(first, 1 + second))

    def test_prices_of_words_that_are_not_free(self):
        for number in (0, 5, 10 ** 30):
            paper = ("part", 0, ((-1, ("end", (number, 1), (0, 0))), (1, ("end", (number, 0), (0, number)))))
            self.assertEqual(case_bound(PAIR, paper), 3)
        for thing in (-1, True, None, "0", ()):
            self.none(PAIR, ("part", 0, ((-1, ("end", (thing, 1), (0, 0))), (1, ("end", (0, 0), (0, 0))))))
            self.none(PAIR, ("part", 0, ((-1, ("end", (0, 1), (0, 0))), (1, ("end", (thing, 0), (0, 0))))))
            self.none(PAIR, ("part", 0, ((-1, ("end", (0, 1), (0, 0))), (1, ("end", (0, 0), (0, thing))))))

    def test_prices_of_words_that_are_free(self):
        self.none(PAIR, ("part", 0, ((-1, ("end", (0, 0), (0, 0))), (1, ("end", (0, 0), (0, 0))))))
        paper = ("part", 0, ((-1, ("end", (0, 0), (1, 3))), (1, ("end", (0, 2), (4, 0)))))
        self.assertEqual(case_bound(PAIR, paper), 4 - max(1 + 3, 1 + 2 + 4))

    def test_told_last_is_not_free_to_give(self):
        inner = ("part", 1, ((0, ("end", (0, 0), (0, 0))),))
        right = ("part", 0, ((-1, inner), (1, ("end", (0, 0), (0, 0)))))
        self.assertEqual(case_bound(PAIR, right), 3)
        again = ("part", 0, ((1, ("end", (0, 0), (0, 0))),))
        self.none(PAIR, ("part", 0, ((-1, again), (1, ("end", (0, 0), (0, 0))))))
        second = ("part", 1, ((-1, ("end", (0, 0), (0, 0))), (0, ("end", (0, 0), (0, 0)))))
        self.none(PAIR, ("part", 0, ((-1, second), (1, ("end", (0, 0), (0, 0))))))

    def test_no_join_closes_a_ring(self):
        last = ("part", 1, ((-1, ("end", (0, 0), (0, 0))),))
        self.assertEqual(case_bound(PAIR, ("part", 0, ((-1, ("end", (0, 1), (0, 0))), (1, last)))), 3)
        ring = ("part", 1, ((-1, ("end", (0, 0), (0, 0))), (0, ("end", (0, 0), (0, 0)))))
        self.none(PAIR, ("part", 0, ((-1, ("end", (0, 1), (0, 0))), (1, ring))))
        family = Family(["ab", "ba", "xy"])
        deep = ("part", 1, ((-1, ("end", (0, 0, 0), (0, 0, 0))), (2, ("end", (0, 0, 0), (0, 0, 0)))))
        rows = ((-1, ("end", (1, 1, 1), (0, 0, 0))), (1, deep), (2, ("end", (1, 1, 1), (0, 0, 0))))
        self.assertEqual(case_bound(family, ("part", 0, rows)), 4)
        deep = ("part", 1, ((-1, ("end", (0, 0, 0), (0, 0, 0))), (0, ("end", (0, 0, 0), (0, 0, 0))),
                            (2, ("end", (0, 0, 0), (0, 0, 0)))))
        rows = ((-1, ("end", (1, 1, 1), (0, 0, 0))), (1, deep), (2, ("end", (1, 1, 1), (0, 0, 0))))
        self.none(family, ("part", 0, rows))

    def test_rings_of_several_words(self):
        family = Family(["abc", "bca", "cab"])
        end = ("end", (0, 0, 0), (0, 0, 0))
        full = ("end", (2, 2, 2), (0, 0, 0))
        chain = ("part", 1, ((-1, full), (2, end)))
        self.assertEqual(case_bound(family, ("part", 0, ((-1, full), (1, chain), (2, full)))), 4)
        rings = ("part", 1, ((-1, full), (0, end), (2, end)))
        self.none(family, ("part", 0, ((-1, full), (1, rings), (2, full))))
        closing = ("part", 1, ((-1, full), (2, ("part", 2, ((-1, end), (0, end))))))
        self.none(family, ("part", 0, ((-1, full), (1, closing), (2, full))))
        closed = ("part", 1, ((-1, full), (2, ("part", 2, ((-1, end),)))))
        self.assertEqual(case_bound(family, ("part", 0, ((-1, full), (1, closed), (2, full)))), 4)

    def part(self, i, *rows):
        return ("part", i, tuple((j, self.end) for j in rows))

    def test_rows_missing_twice_and_out_of_order(self):
        self.assertEqual(case_bound(THREE, self.part(0, -1, 1, 2)), -1)
        self.assertEqual(case_bound(THREE, self.part(1, -1, 0, 2)), -1)
        self.assertEqual(case_bound(THREE, self.part(2, -1, 0, 1)), -1)
        for rows in ((), (-1,), (-1, 1), (-1, 2), (1, 2), (-1, 1, 1), (-1, 2, 1), (1, 2, -1), (1, -1, 2), (-1, 1, 2, 2),
                     (-1, -1, 1, 2), (-1, 1, 1, 2), (-1, 0, 1, 2), (-1, 1, 2, 3), (-1, 0, 1), (-2, 1, 2), (-1, True, 2),
                     (None, 1, 2), ("-1", 1, 2)):
            self.none(THREE, self.part(0, *rows))
        for i in (-1, 3, -2, 10 ** 5000, True, False, None, "0", (), (0,)):
            self.none(THREE, self.part(i, -1, 1, 2))
            self.none(THREE, self.part(i, -1, 0, 2))
            self.none(THREE, self.part(i, -1, 0, 1))

    def test_rows_of_another_form(self):
        rows = ((-1, self.end), (1, self.end), (2, self.end))
        self.assertEqual(case_bound(THREE, ("part", 0, rows)), -1)
        for row in ((1,), (1, self.end, 0), (self.end, 1), self.end, 1, None, "ab", {1: self.end}, {0: 1, 1: self.end}):
            self.none(THREE, ("part", 0, (rows[0], row, rows[2])))
        self.none(THREE, ("part", 0, dict(rows)))
        self.none(THREE, ("part", 0, {0: rows[0], 1: rows[1], 2: rows[2]}))
        self.none(THREE, ("part", 0))
        self.none(THREE, ("part", 0, rows, ()))
        self.none(THREE, ("parts", 0, rows))
        for at in range(3):
            for wrong in (None, ("end", (2, 2, 2), (2, 2)), ("end", (2, 2, -1), (2, 2, 2))):
                self.none(THREE, ("part", 0, rows[:at] + ((rows[at][0], wrong),) + rows[at + 1:]))

    def test_a_word_that_has_a_follower_gives_no_more(self):
        for i in range(3):
            deep = ("part", i, ((-1, self.end), (1, self.end)))
            rows = ((-1, self.end), (1, self.end), (2, deep))
            wanted = bound_by_hand(THREE, ("part", 0, rows))
            self.assertEqual(case_bound(THREE, ("part", 0, rows)), wanted)
            self.assertEqual(wanted is None, i != 2)

    def test_a_price_too_low_at_one_open_join(self):
        source = random.Random(82)
        low = 0
        for _ in range(200):
            family = Family(some_pieces(source, source.randrange(2, 5), "ab", 6))
            paper = some_paper(source, CaseByHand(family), 3)
            for way in places_within(paper):
                lower = changed(paper, way, lambda thing: thing - 1 if isinstance(thing, int) else thing)
                wanted = bound_by_hand(family, lower)
                self.assertEqual(case_bound(family, lower), wanted)
                low += wanted is None
        self.assertGreater(low, 500)


class Papers(unittest.TestCase):
    def test_right_papers(self):
        source = random.Random(83)
        for _ in range(250):
            family = Family(some_pieces(source, source.randrange(0, 6), "ab", 6))
            paper = some_paper(source, CaseByHand(family), source.randrange(0, 7))
            wanted = bound_by_hand(family, paper)
            self.assertIsNotNone(wanted)
            kept = as_lists(paper)
            for same in (paper, as_lists(paper), paper):
                self.assertEqual(case_bound(family, same), wanted)
            self.assertEqual(as_lists(paper), kept)
            self.assertLessEqual(wanted, len(shortest(family)))

    def test_papers_with_one_change(self):
        source = random.Random(84)
        right = wrong = 0
        for _ in range(1500):
            family = Family(some_pieces(source, source.randrange(1, 5), "ab", 6))
            paper = some_paper(source, CaseByHand(family), source.randrange(0, 4))
            way = source.choice(places_within(paper))
            other = changed(paper, way, lambda thing: some_change(source, thing))
            wanted = bound_by_hand(family, other)
            self.assertEqual(case_bound(family, other), wanted)
            right += wanted is not None
            wrong += wanted is None
        self.assertGreater(min(right, wrong), 100)

    def test_whatever_it_is(self):
        for number, thing in enumerate(odd_things()):
            with self.subTest(number):
                for family in (NO_WORDS, Family(["ab"]), PAIR, THREE, EIGHT):
                    self.assertIsNone(case_bound(family, thing))
                prices = (2, 2, 2)
                for paper in ((thing, prices, prices), ("end", thing, prices), ("end", prices, thing),
                              ("part", thing, ()), ("part", 0, thing), ("part", 0, (thing, thing, thing)),
                              ("part", 0, ((-1, thing), (1, thing), (2, thing)))):
                    self.assertIsNone(case_bound(THREE, paper))

    def test_deep_papers(self):
        for family in (NO_WORDS, Family(["ab"]), PAIR, THREE):
            prices = (2,) * family.many()
            paper = ("end", prices, prices)
            for deep in range(1, 10):
                paper = ("part", 0, ((-1, paper),))
                self.assertEqual(case_bound(family, paper), bound_by_hand(family, paper))
                self.assertEqual(case_bound(family, paper) is None, family.many() != 1 or deep > 1)
            self.assertIsNone(case_bound(family, nested(list, 27, paper)))
        wide = ("end", (2, 2, 2), (2, 2, 2))
        for _ in range(14):
            wide = ("part", 0, ((-1, wide), (1, wide), (2, wide)))
        with soon():
            self.assertIsNone(case_bound(THREE, wide))

    def test_more_than_seven_words(self):
        prices = (60,) * 8
        self.assertIsNone(case_bound(EIGHT, ("end", prices, prices)))
        seven = Family(list(EIGHT.words[:7]) + ["a"])
        self.assertEqual(case_bound(seven, ("end", prices[:7], prices[:7])), seven.total - 14 * 60)


class CasesOf(unittest.TestCase):
    def check(self, family):
        paper = cases_of(family)
        self.assertTrue(is_plain(paper))
        self.assertEqual(case_bound(family, paper), len(shortest(family)))
        self.assertEqual(bound_by_hand(family, paper), len(shortest(family)))
        return paper

    def test_no_words_and_few(self):
        self.check(NO_WORDS)
        self.check(Family(["aba", "b"]))
        self.check(PAIR)
        self.check(THREE)

    def test_small_families(self):
        source = random.Random(85)
        parts = 0
        for _ in range(200):
            pieces = some_pieces(source, source.randrange(0, 9), source.choice(("ab", "abc")), 6)
            family = Family(pieces)
            if family.many() <= 7:
                parts += self.check(family)[0] == "part"
        self.assertGreater(parts, 20)

    def test_seven_words(self):
        source = random.Random(86)
        with soon():
            for letters, signs in (("ab", 3), ("ab", 5), ("abc", 2), ("abcdefg", 2), ("ab", 60)):
                for _ in range(4):
                    family = Family(words_of_length(source, 7, letters, signs))
                    self.assertEqual(family.many(), 7)
                    self.check(family)
            self.check(Family(list("abcdefg")))
            self.check(Family(["ab", "ba", "cd", "dc", "ef", "fe", "gh"]))
            self.check(Family(["abc", "bca", "cab", "defg", "efgd", "fgde", "gdef"]))
            self.check(Family(["abababab", "babababa", "aabaabaa", "abaabaab", "baabaaba", "aaabaaab", "aabaaaba"]))

    def test_eight_words(self):
        for family in (EIGHT, Family(words_of_length(random.Random(87), 40, "ab", 8)), Family(list("abcdefgh"))):
            with soon(), self.assertRaises(TooGreat) as caught:
                cases_of(family)
            self.assertEqual(caught.exception.most, 7)

    def test_of_the_same_pieces_the_same(self):
        source = random.Random(88)
        for _ in range(20):
            pieces = some_pieces(source, 6, "ab", 6)
            family = Family(pieces)
            first = cases_of(family)
            cases_of(PAIR)
            self.assertEqual(cases_of(family), first)
            self.assertEqual(cases_of(Family(tuple(pieces))), first)


if __name__ == "__main__":
    unittest.main()
