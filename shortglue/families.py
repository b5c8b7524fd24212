"""Families: pieces parted into those that are kept and those left out."""

from shortglue.errors import NoPiece, TooMany
from shortglue.kinds import are_numbers, is_row
from shortglue.laps import all_laps
from shortglue.signs import MOST_PIECES, MOST_SIGNS, first_place, is_text, is_whole, stands_at


def check_pieces(things):
    """Refuses a row of too many things, and one of things that aren't all pieces."""
    if len(things) > MOST_PIECES:
        raise TooMany(MOST_PIECES)
    for at, thing in enumerate(things):
        if not is_text(thing, 1, MOST_SIGNS):
            raise NoPiece(at)


def stands_within(piece, other):
    """Whether a piece stands in another one at some place."""
    return first_place(other, piece) >= 0


def is_kept(pieces, at):
    """Whether the piece at an index isn't left out."""
    piece = pieces[at]
    longer = [other for other in pieces if len(other) > len(piece)]
    return piece not in pieces[:at] and not any([stands_within(piece, other) for other in longer])


def left_row(pieces, kept, at):
    """The row (index, holder, place) of a piece that is left out."""
    holder = min([one for one in kept if stands_within(pieces[at], pieces[one])])
    return (at, holder, first_place(pieces[holder], pieces[at]))


class Family:
    """Pieces, of which those are kept that stand within no other one."""

    def __init__(self, pieces):
        check_pieces(pieces)
        self.pieces = tuple(pieces)
        indexes = list(range(len(self.pieces)))
        self.kept = tuple([at for at in indexes if is_kept(self.pieces, at)])
        self.words = tuple([self.pieces[at] for at in self.kept])
        self.left = tuple([left_row(self.pieces, self.kept, at) for at in indexes if at not in self.kept])
        self.laps = all_laps(self.words)
        self.total = sum([len(word) for word in self.words])

    def many(self):
        """How many words there are."""
        return len(self.words)


def are_rising_indexes(thing, many):
    """Whether a thing is a row of rising numbers from 0 to below many."""
    if not is_row(thing) or not all([is_whole(item, 0, many - 1) for item in thing]):
        return False
    return all([one < other for one, other in zip(thing, thing[1:])])


def are_apart(words):
    """Whether no word stands within another one, nor is the same text."""
    numbers = list(range(len(words)))
    return not any([stands_within(words[i], words[j]) for i in numbers for j in numbers if i != j])


def is_left_paper(pieces, kept, left):
    """Whether kept and left part the pieces, and show why."""
    many = len(pieces)
    if not are_rising_indexes(kept, many):
        return False
    if not is_row(left) or not all([are_numbers(row, 3) for row in left]):
        return False
    out = [row[0] for row in left]
    if not are_rising_indexes(out, many) or sorted(list(kept) + out) != list(range(many)):
        return False
    for at, holder, place in left:
        if holder not in kept or not stands_at(pieces[holder], pieces[at], place):
            return False
    return are_apart([pieces[at] for at in kept])
