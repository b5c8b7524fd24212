"""Pieces that must stand at several places each."""

from shortglue.errors import NoCounts, NoOrder, NotApart, NotHeld, TooGreat
from shortglue.families import check_pieces, is_kept
from shortglue.kinds import are_numbers, is_row
from shortglue.laps import all_laps
from shortglue.orders import glue_all
from shortglue.prices import pays_laps
from shortglue.signs import is_whole, places

MOST_COUNT = 9
MOST_PRODUCT = 500


def check_apart(pieces):
    """Refuses pieces of which one stands within another one, or is the same text."""
    for at in range(len(pieces)):
        if not is_kept(pieces, at):
            raise NotApart(at)


def check_counts(counts, many):
    """Refuses what is no row of just so many counts."""
    if not is_row(counts):
        raise NoCounts(0)
    for at, count in enumerate(counts[:many]):
        if not is_whole(count, 1, MOST_COUNT):
            raise NoCounts(at)
    if len(counts) != many:
        raise NoCounts(min(len(counts), many))


def steps_of(counts):
    """How far the number of what is left falls with each piece, and how many such numbers there are.

    Each piece has a digit of its own in that number: how many of it are left.
    """
    steps = []
    step = 1
    for count in counts:
        steps.append(step)
        step *= count + 1
    return (steps, step)


class Often:
    """Pieces, each with a count of the places at which it must stand."""

    def __init__(self, pieces, counts):
        check_pieces(pieces)
        check_apart(pieces)
        check_counts(counts, len(pieces))
        if steps_of(counts)[1] > MOST_PRODUCT:
            raise TooGreat(MOST_PRODUCT)
        self.pieces = tuple(pieces)
        self.counts = tuple(counts)
        self.laps = all_laps(self.pieces)
        self.total = sum([len(piece) * count for piece, count in zip(self.pieces, self.counts)])


def is_full_row(often, thing):
    """Whether a thing is a row of the pieces' indexes, each as often as its count tells."""
    wanted = [i for i, count in enumerate(often.counts) for again in range(count)]
    return are_numbers(thing, len(wanted)) and sorted(thing) == wanted


def row_text(often, row):
    """The pieces of a full row, glued."""
    if not is_full_row(often, row):
        raise NoOrder()
    return glue_all(often.pieces, often.laps, row)


def row_in(often, text):
    """The pieces' indexes by the first places at which they stand in a text, as many as the counts tell."""
    found = []
    for i, piece in enumerate(often.pieces):
        first = places(text, piece)[:often.counts[i]]
        if len(first) < often.counts[i]:
            raise NotHeld(i)
        found += [(place, i) for place in first]
    return tuple([i for place, i in sorted(found)])


def often_bound(often, paper):
    """The bound that a paper (gives, takes) shows, or None if it is no such paper."""
    numbers = list(range(len(often.pieces)))
    # A piece may follow itself, so its own lap counts as well.
    if not pays_laps(paper, often.laps, [(i, j) for i in numbers for j in numbers]):
        return None
    gives, takes = paper
    return often.total - sum([often.counts[i] * (gives[i] + takes[i]) for i in numbers])
