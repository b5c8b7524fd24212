"""[1], [2], [3] over the whole program, and the names and arguments of the interface."""

import copy
import importlib
import inspect
import pathlib
import random
import unittest

from shortglue import errors
from shortglue.beginnings import Beginnings
from shortglue.borders import all_borders, borders, period
from shortglue.casemaking import cases_of
from shortglue.cases import case_bound
from shortglue.covers import are_marks, cover, is_cover
from shortglue.desk import Desk
from shortglue.families import Family, is_left_paper
from shortglue.gapped import fits_at, gapped_places, is_gapped
from shortglue.greedy import greedy, is_greedy, order_of_joins
from shortglue.holding import holds_all, is_holding, order_in, places_in, settled
from shortglue.laps import all_laps, glued, lap
from shortglue.listing import listed, why_rows
from shortglue.often import Often, is_full_row, often_bound, row_in, row_text
from shortglue.oftenshort import shortest_often
from shortglue.orders import is_order, saved, starts_of, text_of
from shortglue.pairing import best_pairing, is_pairing_paper
from shortglue.prices import price_bound, prices_of
from shortglue.reading import read_pieces, show_pieces
from shortglue.rings import by_rings, opened, rings_of, weight
from shortglue.rounds import is_round_held, round_of, round_order, stands_round
from shortglue.roundshort import shortest_round
from shortglue.shortest import is_ahead, shortest
from shortglue.signs import first_place, is_text, is_whole, places, stands_at
from shortglue.slips import many_slips, put_right, slip_lap
from shortglue.tables import is_table, order_by, table_bound, table_of
from shortglue.turning import Turnable, is_ways, turn_price_bound, turned, ways_in, ways_text
from shortglue.turnshort import shortest_turned
from things import as_lists, is_plain, nested, odd_things, soon, words_of_length

# Each name with its arguments; behind a class its methods.
INTERFACE = {
    "signs": {"is_text": "thing least=0 most=4000", "is_whole": "thing least most", "stands_at": "text piece place",
              "places": "text piece", "first_place": "text piece"},
    "borders": {"borders": "text", "all_borders": "text", "period": "text"},
    "laps": {"lap": "one other", "all_laps": "words", "glued": "one other k"},
    "beginnings": {"Beginnings": "words", "Beginnings.many": "", "Beginnings.number_of": "text",
                   "Beginnings.longest_end": "text", "Beginnings.laps_of": "text"},
    "families": {"Family": "pieces", "Family.many": "", "is_left_paper": "pieces kept left"},
    "orders": {"is_order": "thing many", "text_of": "family order", "starts_of": "family order",
               "saved": "family order"},
    "holding": {"holds_all": "text pieces", "is_holding": "text pieces places", "places_in": "text pieces",
                "order_in": "family text", "settled": "family order"},
    "greedy": {"greedy": "family", "order_of_joins": "joins many", "is_greedy": "family joins"},
    "pairing": {"best_pairing": "rows", "is_pairing_paper": "rows paper"},
    "prices": {"price_bound": "family paper", "prices_of": "family"},
    "rings": {"weight": "family ring", "rings_of": "family", "opened": "family ring", "by_rings": "family"},
    "tables": {"table_of": "family", "table_bound": "family paper", "is_table": "family paper",
               "order_by": "family table"},
    "shortest": {"is_ahead": "one other", "shortest": "family"},
    "cases": {"case_bound": "family paper"},
    "casemaking": {"cases_of": "family"},
    "rounds": {"stands_round": "ring piece place", "is_round_held": "ring pieces places", "round_of": "family order",
               "round_order": "family ring"},
    "roundshort": {"shortest_round": "family"},
    "turning": {"turned": "text", "Turnable": "pieces", "Turnable.many": "", "is_ways": "thing many",
                "ways_text": "turnable ways", "ways_in": "turnable text", "turn_price_bound": "turnable paper"},
    "turnshort": {"shortest_turned": "turnable"},
    "often": {"Often": "pieces counts", "is_full_row": "often thing", "row_text": "often row", "row_in": "often text",
              "often_bound": "often paper"},
    "oftenshort": {"shortest_often": "often"},
    "gapped": {"is_gapped": "thing", "fits_at": "text gapped place", "gapped_places": "text gapped"},
    "covers": {"cover": "text pieces", "is_cover": "text pieces chosen", "are_marks": "text pieces marks"},
    "slips": {"many_slips": "one other", "slip_lap": "one other most", "put_right": "reads most"},
    "reading": {"read_pieces": "text", "show_pieces": "pieces"},
    "listing": {"listed": "text pieces places", "why_rows": "family paper"},
    "desk": {"Desk": "", "Desk.add": "piece", "Desk.drop": "piece", "Desk.told": "", "Desk.shortest_text": "",
             "Desk.where": "", "Desk.why": "", "Desk.length_with": "piece"},
}

FAMILY = Family(["cda", "bc", "abc", "bcd"])
NO_WORDS = Family([])
TURNABLE = Turnable(["abc", "dcb", "ba"])
OFTEN = Often(["aba", "cab"], [2, 1])


def with_desk(call):
    """Asks a new desk of two pieces."""
    def asked(thing):
        desk = Desk()
        desk.add("ab")
        desk.add("bc")
        return getattr(desk, call)(thing)
    return asked


# What is asked of things whatever they are: the call, a right thing, and the errors that are told.
WHATEVER = {
    "is_text": (lambda thing: is_text(thing, 1, 60), "ab", ()),
    "is_whole": (lambda thing: is_whole(thing, 0, 10), 7, ()),
    "Family": (lambda thing: Family(["ab", thing]).words, "bc", (errors.NoPiece,)),
    "Turnable": (lambda thing: Turnable(["ab", thing]).words, "bc", (errors.NoPiece,)),
    "Often pieces": (lambda thing: Often(["ab", thing], [1, 1]).total, "bc", (errors.NoPiece, errors.NotApart)),
    "Often counts": (lambda thing: Often(["ab", "bc"], thing).total, (2, 3), (errors.NoCounts,)),
    "is_left_paper kept": (lambda thing: is_left_paper(FAMILY.pieces, thing, FAMILY.left), FAMILY.kept, ()),
    "is_left_paper left": (lambda thing: is_left_paper(FAMILY.pieces, FAMILY.kept, thing), FAMILY.left, ()),
    "is_order": (lambda thing: is_order(thing, 3), (2, 0, 1), ()),
    "text_of": (lambda thing: text_of(FAMILY, thing), (2, 0, 1), (errors.NoOrder,)),
    "starts_of": (lambda thing: starts_of(FAMILY, thing), (2, 0, 1), (errors.NoOrder,)),
    "saved": (lambda thing: saved(FAMILY, thing), (2, 0, 1), (errors.NoOrder,)),
    "settled": (lambda thing: settled(FAMILY, thing), (2, 0, 1), (errors.NoOrder,)),
    "is_holding": (lambda thing: is_holding("abcda", FAMILY.pieces, thing), (2, 1, 0, 1), ()),
    "order_of_joins": (lambda thing: order_of_joins(thing, 3), ((1, 2, 2), (2, 0, 2)), (errors.NoOrder,)),
    "is_greedy": (lambda thing: is_greedy(FAMILY, thing), ((1, 2, 2), (2, 0, 2)), ()),
    "best_pairing": (best_pairing, ((0, 3), (5, 1)), (errors.NoTable,)),
    "is_pairing_paper rows": (lambda thing: is_pairing_paper(thing, ((1, 0), (3, 5), (0, 0))), ((0, 3), (5, 1)), ()),
    "is_pairing_paper": (lambda thing: is_pairing_paper(((0, 3), (5, 1)), thing), ((1, 0), (3, 5), (0, 0)), ()),
    "price_bound": (lambda thing: price_bound(FAMILY, thing), prices_of(FAMILY), ()),
    "weight": (lambda thing: weight(FAMILY, thing), (2, 0), (errors.NoRing,)),
    "opened": (lambda thing: opened(FAMILY, thing), (2, 0), (errors.NoRing,)),
    "table_bound": (lambda thing: table_bound(FAMILY, thing), table_of(FAMILY), ()),
    "is_table": (lambda thing: is_table(FAMILY, thing), table_of(FAMILY), ()),
    "order_by": (lambda thing: order_by(FAMILY, thing), table_of(FAMILY), (errors.NoTable,)),
    "case_bound": (lambda thing: case_bound(FAMILY, thing), cases_of(FAMILY), ()),
    "is_round_held": (lambda thing: is_round_held("cdab", FAMILY.words, thing), (0, 2, 3), ()),
    "round_of": (lambda thing: round_of(FAMILY, thing), (2, 0, 1), (errors.NoOrder,)),
    "is_ways": (lambda thing: is_ways(thing, 2), ((0, 0), (1, 1)), ()),
    "ways_text": (lambda thing: ways_text(TURNABLE, thing), ((0, 0), (1, 1)), (errors.NoOrder,)),
    "turn_price_bound": (lambda thing: turn_price_bound(TURNABLE, thing), ((2, 0, 2, 0), (0, 1, 0, 1)), ()),
    "is_full_row": (lambda thing: is_full_row(OFTEN, thing), (0, 1, 0), ()),
    "row_text": (lambda thing: row_text(OFTEN, thing), (0, 1, 0), (errors.NoOrder,)),
    "often_bound": (lambda thing: often_bound(OFTEN, thing), ((1, 2), (0, 0)), ()),
    "is_gapped": (is_gapped, "a?b", ()),
    "cover": (lambda thing: cover("abc", ["??", "?", thing]), "a?c", (errors.NoPiece,)),
    "is_cover": (lambda thing: is_cover("abc", ["ab", "?c"], thing), ((0, 0), (1, 1)), ()),
    "are_marks": (lambda thing: are_marks("abc", ["ab", "?c"], thing), (0, 2), ()),
    "put_right": (lambda thing: put_right(["ab", thing], 1), "bc", (errors.NoPiece,)),
    "listed": (lambda thing: listed("abc", ["ab", "c"], [0, thing]), 2, (errors.NotHeld,)),
    "why_rows": (lambda thing: why_rows(FAMILY, thing), prices_of(FAMILY), (errors.NoPaper,)),
    "Desk.add": (with_desk("add"), "ca", (errors.NoPiece,)),
    "Desk.length_with": (with_desk("length_with"), "ca", (errors.NoPiece,)),
    "Desk.drop": (with_desk("drop"), "bc", (errors.NotTold,)),
}


def spoiled(source, thing, things):
    """A right thing with something else somewhere in it: replaced, added or taken away."""
    if not isinstance(thing, list) or not thing or source.randrange(4) == 0:
        return source.choice(things)
    rows, at = list(thing), source.randrange(len(thing))
    deed = source.randrange(5)
    if deed == 0:
        rows.insert(at, source.choice(things))
    elif deed == 1:
        rows.pop(at)
    else:
        rows[at] = spoiled(source, rows[at], things)
    return rows if source.randrange(2) else tuple(rows)


def is_answer(thing):
    return thing is None or isinstance(thing, bool) or is_plain(thing)


class Interface(unittest.TestCase):
    def test_names_and_arguments(self):
        for file, names in INTERFACE.items():
            module = importlib.import_module(f"shortglue.{file}")
            for name, wanted in names.items():
                with self.subTest(f"{file} {name}"):
                    found = module
                    for part in name.split("."):
                        found = getattr(found, part)
                    arguments = [str(one) for one in inspect.signature(found).parameters.values()]
                    self.assertEqual([one for one in arguments if one != "self"], wanted.split())
                    holder = getattr(module, name.split(".")[0])
                    self.assertEqual(holder.__module__, f"shortglue.{file}")

    def test_values(self):
        for thing in (FAMILY, TURNABLE):
            for name in ("pieces", "kept", "words", "left", "laps", "total"):
                self.assertTrue(is_plain(getattr(thing, name)))
        for name in ("pieces", "counts", "laps", "total"):
            self.assertTrue(is_plain(getattr(OFTEN, name)))
        signs = importlib.import_module("shortglue.signs")
        self.assertEqual((signs.MOST_TEXT, signs.MOST_SIGNS, signs.MOST_PIECES), (4000, 60, 40))

    def test_no_file_keeps_what_can_be_changed(self):
        folder = pathlib.Path(__file__).resolve().parent.parent / "shortglue"
        for path in folder.glob("*.py"):
            module = importlib.import_module(f"shortglue.{path.stem}".replace(".__init__", ""))
            for name, value in vars(module).items():
                if not name.startswith("__"):
                    self.assertNotIsInstance(value, (list, dict, set, bytearray), name)


class Whatever(unittest.TestCase):
    def ask(self, name, thing):
        call, _, told = WHATEVER[name]
        try:
            answer = call(thing)
        except told as refusal:
            self.assertIn(refusal.__class__, told)
            return None
        self.assertTrue(is_answer(answer))
        return answer

    def test_right_things(self):
        for name, (call, right, _) in WHATEVER.items():
            with self.subTest(name):
                answer = call(right)
                self.assertTrue(is_answer(answer))
                self.assertIsNotNone(answer)
                # This desk's text doesn't hold the piece, so that False is right there.
                self.assertIs(answer is False, name == "Desk.add")
                self.assertEqual(call(as_lists(right)), answer)

    def test_odd_things(self):
        for name in WHATEVER:
            for number, thing in enumerate(odd_things()):
                with self.subTest(f"{name} {number}"):
                    self.ask(name, thing)

    def test_deep_things(self):
        cores = [0, True, None, "a", 10 ** 5000, [], {}, [1, 2, 3], ((0, 1, 2), (2, 1, 0))]
        for name in WHATEVER:
            for kind in (list, tuple, dict):
                for depth in (1, 2, 3, 28):
                    for core in cores:
                        self.ask(name, nested(kind, depth, core))

    def test_things_that_stand_in_many_places(self):
        for seed in (0, "a", (0, 0), [True]):
            thing = seed
            for depth in range(29):
                thing = [thing, thing, thing] if depth & 1 else (thing, thing)
            with soon():
                for name, (_, right, _) in WHATEVER.items():
                    self.ask(name, thing)
                    self.ask(name, (thing, thing))
                    if isinstance(right, tuple):
                        self.ask(name, right[:-1] + (thing,))

    def test_right_things_spoiled(self):
        source = random.Random(211)
        things = [thing for thing in odd_things() if not (isinstance(thing, str) and len(thing) > 60)]
        for name, (_, right, _) in WHATEVER.items():
            for number in range(400):
                thing = spoiled(source, as_lists(right), things)
                before = copy.deepcopy(thing)
                with self.subTest(f"{name} {number}"):
                    first = self.ask(name, thing)
                    self.assertTrue(thing == before)
                    self.assertTrue(self.ask(name, thing) == first)

    def test_true_and_false_are_no_whole_numbers(self):
        for name, (call, right, told) in WHATEVER.items():
            for thing in (True, False):
                if told:
                    with self.assertRaises(told):
                        call(thing)
                else:
                    self.assertIn(call(thing), (None, False))


def all_calls():
    """A call of every function, each with what it is handed and no other call changes."""
    calls = [
        (is_text, "ab", 0, 3), (is_whole, 3, 0, 5), (stands_at, "abab", "ab", 2), (places, "abab", "ab"),
        (first_place, "abab", "ba"), (borders, "abab"), (all_borders, "ababa"), (period, "ababa"),
        (lap, "abc", "bcd"), (all_laps, ["abc", "bcd"]), (glued, "abc", "bcd", 2),
        (is_left_paper, ["ab", "b"], [0], [[1, 0, 1]]), (is_order, [1, 0], 2),
        (holds_all, "abc", ["ab", "c"]), (is_holding, "abc", ["ab", "c"], [0, 2]), (places_in, "abc", ["ab", "c"]),
        (order_of_joins, [[1, 0, 0]], 2), (best_pairing, [[0, 3], [5, 1]]),
        (is_pairing_paper, [[0, 3], [5, 1]], [[1, 0], [3, 5], [0, 0]]), (is_ahead, "ab", "ba"),
        (stands_round, "abc", "ca", 2), (is_round_held, "abc", ["ca", "b"], [2, 1]), (turned, "abc"),
        (is_ways, [[0, 1], [1, 0]], 2), (is_gapped, "a?"), (fits_at, "abc", "?c", 1), (gapped_places, "abc", "?"),
        (cover, "abc", ["ab", "?c"]), (is_cover, "abc", ["ab", "?c"], [[0, 0], [1, 1]]),
        (are_marks, "abc", ["ab", "?c"], [0, 2]), (many_slips, "abc", "abd"), (slip_lap, "abc", "bxd", 1),
        (put_right, ["abcx", "bcde"], 1), (read_pieces, "ab\n cd \n"), (show_pieces, ["ab", "cd"]),
        (listed, "abc", ["ab", "c"], [0, 2]),
    ]
    for call in (text_of, starts_of, saved, settled, round_of, weight, opened):
        calls.append((call, FAMILY, [2, 0, 1]))
    for call in (greedy, prices_of, rings_of, by_rings, table_of, shortest, cases_of, shortest_round):
        calls.append((call, FAMILY))
    for call, right in ((price_bound, prices_of(FAMILY)), (table_bound, table_of(FAMILY)), (is_table, table_of(FAMILY)),
                        (order_by, table_of(FAMILY)), (case_bound, cases_of(FAMILY)), (why_rows, prices_of(FAMILY)),
                        (is_greedy, greedy(FAMILY))):
        calls.append((call, FAMILY, as_lists(right)))
    calls += [
        (order_in, FAMILY, "abcda"), (round_order, FAMILY, "cdab"),
        (ways_text, TURNABLE, [[0, 0], [1, 1]]), (ways_in, TURNABLE, "abcd"), (shortest_turned, TURNABLE),
        (turn_price_bound, TURNABLE, [[2, 0, 2, 0], [0, 1, 0, 1]]),
        (is_full_row, OFTEN, [0, 1, 0]), (row_text, OFTEN, [0, 1, 0]), (row_in, OFTEN, "cababa"),
        (often_bound, OFTEN, [[1, 2], [0, 0]]), (shortest_often, OFTEN),
    ]
    return calls


def shown_object(thing):
    """All that an object of the program keeps, or the thing itself."""
    return dict(vars(thing)) if isinstance(thing, (Family, Turnable, Often, Desk)) else thing


class Calls(unittest.TestCase):
    def test_every_function_is_called(self):
        named = {name for names in INTERFACE.values() for name in names if name[0].islower()}
        self.assertEqual({call[0].__name__ for call in all_calls()}, named)

    def test_what_is_handed_in_stays(self):
        for call, *handed in all_calls():
            before = copy.deepcopy([shown_object(thing) for thing in handed])
            answer = call(*handed)
            self.assertEqual([shown_object(thing) for thing in handed], before, call.__name__)
            self.assertTrue(is_answer(answer), call.__name__)

    def test_rows_of_either_kind(self):
        for call, *handed in all_calls():
            tuples = [as_tuples(thing) for thing in handed]
            self.assertEqual(call(*tuples), call(*handed), call.__name__)

    def test_asked_again_behind_others(self):
        calls = all_calls()
        first = [call(*handed) for call, *handed in calls]
        for at in reversed(range(len(calls))):
            call, *handed = calls[at]
            self.assertEqual(call(*handed), first[at], call.__name__)

    def test_what_objects_keep(self):
        pieces, counts = ["cda", "abc", "bcd"], [1, 2, 1]
        made = [Family(pieces), Turnable(pieces), Often(pieces, counts), Beginnings(pieces)]
        before = [copy.deepcopy(vars(thing)) for thing in made]
        pieces[0] = "zz"
        pieces.append("yy")
        counts.clear()
        shortest(Family(["xy"]))
        self.assertEqual([vars(thing) for thing in made], before)
        self.assertEqual(made[3].laps_of("abc"), (1, 0, 2))
        self.assertEqual((made[3].many(), made[3].number_of("zz"), made[3].longest_end("xcd")), (10, None, 2))


def as_tuples(thing):
    return tuple(as_tuples(item) for item in thing) if isinstance(thing, list) else thing


class Refusals(unittest.TestCase):
    """Where two could be raised, the one goes first that is told first."""

    def first(self, error, field, call, *handed):
        desk = call.__self__ if hasattr(call, "__self__") else None
        before = copy.deepcopy([shown_object(thing) for thing in handed] + [shown_object(desk)])
        with self.assertRaises(error) as caught:
            call(*handed)
        self.assertIs(caught.exception.__class__, error)
        if field is not None:
            names = [name for name in ("most", "at", "k") if name in vars(caught.exception)]
            self.assertEqual([getattr(caught.exception, name) for name in names], [field])
        self.assertEqual([shown_object(thing) for thing in handed] + [shown_object(desk)], before)

    def test_too_many_and_no_piece(self):
        for things in ([None] * 41, ["A"] + ["a"] * 40, ["a"] * 40 + [""]):
            for kind in (list, tuple):
                self.first(errors.TooMany, 40, Family, kind(things))
                self.first(errors.TooMany, 40, Turnable, kind(things))
                self.first(errors.TooMany, 40, Often, kind(things), [])
                self.first(errors.TooMany, 40, cover, "zz", kind(things))
                self.first(errors.TooMany, 40, put_right, kind(things), 0)

    def test_one_index_of_several(self):
        self.first(errors.NoPiece, 1, Family, ["a", "", "B"])
        self.first(errors.NoPiece, 1, Turnable, ["a", "", "B"])
        self.first(errors.NoPiece, 1, put_right, ["a", "", "B"], 0)
        self.first(errors.NotHeld, 1, places_in, "abc", ["a", "x", "y"])
        self.first(errors.NotHeld, 0, order_in, FAMILY, "")
        self.first(errors.NotHeld, 0, ways_in, TURNABLE, "")
        self.first(errors.NotHeld, 1, row_in, OFTEN, "abaaba")
        self.first(errors.NotHeld, 1, listed, "abc", ["a", "b", "c"], [0, None, 7])
        self.first(errors.NotCovered, 1, cover, "abc", ["a"])
        self.first(errors.NoLine, 1, read_pieces, "a\nB\nC")

    def test_often(self):
        self.first(errors.NoPiece, 2, Often, ["ab", "ab", 0], None)
        self.first(errors.NotApart, 1, Often, ["ab", "ab"], None)
        self.first(errors.NotApart, 0, Often, ["a", "ab"], [9])
        self.first(errors.NotApart, 3, Often, ["ab", "cd", "ef", "f"], [9, 9, 9, 9])
        self.first(errors.NoCounts, 0, Often, ["ab", "cd", "ef"], None)
        self.first(errors.NoCounts, 1, Often, ["ab", "cd", "ef"], [9, 0, 9, 9])
        self.first(errors.NoCounts, 3, Often, ["ab", "cd", "ef"], [9, 9, 9, 9])
        self.first(errors.TooGreat, 500, Often, ["ab", "cd", "ef"], [9, 9, 9])

    def test_rounds(self):
        for order in ((0,), None, [[]], "a"):
            self.first(errors.NoWords, None, round_of, NO_WORDS, order)
        self.first(errors.NoWords, None, round_order, NO_WORDS, "a")
        self.first(errors.NoWords, None, shortest_round, NO_WORDS)

    def test_covers(self):
        for text in ("a", "z", ""):
            self.first(errors.NoPiece, 1, cover, text, ["b", "A", ""])
        self.first(errors.NotCovered, 0, cover, "z", ["b", "a"])

    def test_reads(self):
        self.first(errors.NoWords, None, put_right, [], 0)
        self.first(errors.NoPiece, 0, put_right, [None] * 40, 0)

    def test_lines(self):
        self.first(errors.NoLine, 41, read_pieces, "a\n" * 41 + "B")
        self.first(errors.TooMany, 40, read_pieces, "a\n" * 41)

    def test_a_table_of_too_many_words(self):
        family = Family(words_of_length(random.Random(212), 9, "ab", 5))
        self.first(errors.TooGreat, 8, table_of, family)
        self.first(errors.NoTable, None, order_by, family, None)
        self.first(errors.NoTable, None, order_by, family, [[0] * 9] * 512)
        self.assertIsNone(table_bound(family, [[0] * 9] * 512))
        self.assertIs(is_table(family, [[0] * 9] * 512), False)
        self.assertIsNone(case_bound(family, ("end", [9] * 9, [9] * 9)))
        self.first(errors.TooGreat, 7, cases_of, family)

    def test_desks(self):
        desk = Desk()
        for word in words_of_length(random.Random(213), 12, "ab", 6):
            desk.add(word)
        for call in (desk.add, desk.length_with):
            self.first(errors.NoPiece, 0, call, "A")
            self.first(errors.TooGreat, 12, call, "cc")
        for _ in range(28):
            desk.add("a")
        for call in (desk.add, desk.length_with):
            self.first(errors.NoPiece, 0, call, "")
            self.first(errors.TooMany, 40, call, "cc")
            self.first(errors.TooMany, 40, call, "a")
        self.first(errors.NotTold, None, desk.drop, "cc")
        self.first(errors.NotTold, None, desk.drop, [["A"]])


class SomewhatBeyond(unittest.TestCase):
    """Nothing is refused for its size but where a point says so."""

    def test_great_texts(self):
        text = "ab" * 2100
        self.assertEqual(first_place(text + "c", "c"), 4200)
        self.assertEqual(len(places(text, "ab")), 2100)
        self.assertEqual(period(text), 2)
        self.assertEqual(lap(text, text), 4198)
        self.assertEqual(order_in(Family(["ab", "bc"]), text + "c"), (0, 1))
        self.assertEqual(ways_in(Turnable(["cb", "ab"]), text + "c"), ((1, 0), (0, 1)))
        self.assertEqual(len(cover(text, ["ab"])[0]), 2100)
        self.assertEqual(gapped_places(text, "b?b")[-1], 4197)
        self.assertEqual(read_pieces(" " * 4100 + "ab"), ("ab",))

    def test_many_things(self):
        row = list(range(45))
        self.assertIs(is_order(row, 45), True)
        self.assertIs(is_ways([(i, 0) for i in row], 45), True)
        self.assertEqual(order_of_joins([(i, i + 1, 0) for i in row[:44]], 45), tuple(row))
        pieces = ["a" * many for many in range(1, 46)]
        self.assertIs(holds_all("a" * 45, pieces), True)
        self.assertIs(is_holding("a" * 45, pieces, [0] * 45), True)
        self.assertIs(is_cover("a" * 45, pieces, [(0, 44)]), True)
        self.assertIs(are_marks("a" * 45, pieces, [7]), True)


if __name__ == "__main__":
    unittest.main()
