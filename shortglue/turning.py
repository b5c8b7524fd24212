"""Pieces that may stand either way: way 0 as they were told, way 1 turned.

State 2 * i + way is word i that way.
"""

from shortglue.errors import NoOrder, NotHeld
from shortglue.families import check_pieces, stands_within
from shortglue.kinds import are_numbers, is_row
from shortglue.laps import all_laps
from shortglue.orders import glue_all, is_order
from shortglue.prices import other_pairs, pays_laps
from shortglue.signs import first_place, is_whole


def turned(text):
    """A text read backwards."""
    return text[::-1]


def one_way(text, way):
    """A text as it stands that way."""
    return turned(text) if way == 1 else text


def stands_some_way(piece, other):
    """Whether a piece, or it turned, stands in another one."""
    return stands_within(piece, other) or stands_within(turned(piece), other)


def is_kept_some_way(pieces, at):
    """Whether the piece at an index isn't left out, neither as told nor turned."""
    piece = pieces[at]
    if piece in pieces[:at] or turned(piece) in pieces[:at]:
        return False
    return not any([stands_some_way(piece, other) for other in pieces if len(other) > len(piece)])


def left_some_way(pieces, kept, at):
    """The row (index, holder, place, way) of a piece that is left out."""
    piece = pieces[at]
    holder = min([one for one in kept if stands_some_way(piece, pieces[one])])
    # Way 0 goes first here wherever it stands, even if it stands turned at an earlier place.
    way = 0 if stands_within(piece, pieces[holder]) else 1
    return (at, holder, first_place(pieces[holder], one_way(piece, way)), way)


class Turnable:
    """Pieces, of which those are kept that stand within no other one, either way."""

    def __init__(self, pieces):
        check_pieces(pieces)
        self.pieces = tuple(pieces)
        indexes = list(range(len(self.pieces)))
        self.kept = tuple([at for at in indexes if is_kept_some_way(self.pieces, at)])
        self.words = tuple([self.pieces[at] for at in self.kept])
        self.left = tuple([left_some_way(self.pieces, self.kept, at) for at in indexes if at not in self.kept])
        self.states = tuple([one_way(word, way) for word in self.words for way in (0, 1)])
        self.laps = all_laps(self.states)
        self.total = sum([len(word) for word in self.words])

    def many(self):
        """How many words there are."""
        return len(self.words)


def is_ways(thing, many):
    """Whether a thing is a row of rows (i, way) with each of so many words once."""
    if not is_row(thing) or not all([are_numbers(row, 2) and is_whole(row[1], 0, 1) for row in thing]):
        return False
    return is_order([row[0] for row in thing], many)


def ways_text(turnable, ways):
    """The words in the order and the ways that are told, glued."""
    if not is_ways(ways, turnable.many()):
        raise NoOrder()
    return glue_all(turnable.states, turnable.laps, [2 * i + way for i, way in ways])


def first_way(text, word):
    """The first place at which a word stands some way, and that way; (-1, 0) if there is none."""
    found = [(first_place(text, one_way(word, way)), way) for way in (0, 1)]
    return min([(place, way) for place, way in found if place >= 0], default=(-1, 0))


def ways_in(turnable, text):
    """The words and their ways, by the first places at which they stand in a text."""
    found = []
    for i, word in enumerate(turnable.words):
        place, way = first_way(text, word)
        if place < 0:
            raise NotHeld(turnable.kept[i])
        found.append((place, i, way))
    return tuple([(i, way) for place, i, way in sorted(found)])


def turn_price_bound(turnable, paper):
    """The bound that prices of states show, or None if paper is no such paper."""
    many = turnable.many()
    pairs = [(a, b) for a, b in other_pairs(2 * many) if a // 2 != b // 2]
    if not pays_laps(paper, turnable.laps, pairs):
        return None
    sums = [give + take for give, take in zip(paper[0], paper[1])]
    # Each word stands one way alone, and nobody knows which.
    return turnable.total - sum([max(sums[2 * i], sums[2 * i + 1]) for i in range(many)])
