"""Covers: gapped pieces over each sign of a text, and marks that show that none is smaller."""

from shortglue.errors import NoPiece, NotCovered, TooMany
from shortglue.families import are_rising_indexes
from shortglue.gapped import fits_at, gapped_places, is_gapped
from shortglue.kinds import are_numbers, is_row
from shortglue.signs import MOST_PIECES, is_whole


def check_gapped(things):
    """Refuses a row of too many things, and one of things that aren't all gapped pieces."""
    if len(things) > MOST_PIECES:
        raise TooMany(MOST_PIECES)
    for at, thing in enumerate(things):
        if not is_gapped(thing):
            raise NoPiece(at)


def farthest(text, pieces):
    """For each place of a text, which piece that stands there or before it reaches farthest.

    Each is (less, index), less being the place behind the piece's last sign
    with a minus, so that the least of them is the one that is chosen first;
    less is 0 if no piece stands there or before.
    """
    best = [(0, 0) for sign in text]
    for index, piece in enumerate(pieces):
        for place in gapped_places(text, piece):
            best[place] = min(best[place], (-(place + len(piece)), index))
    for place in range(1, len(text)):
        best[place] = min(best[place], best[place - 1])
    return best


def cover(text, pieces):
    """The pieces that are chosen to cover a text, and the marks for which they were chosen."""
    check_gapped(pieces)
    best = farthest(text, pieces)
    chosen = []
    marks = []
    mark = 0
    while mark < len(text):
        less, index = best[mark]
        if -less <= mark:
            raise NotCovered(mark)
        chosen.append((-less - len(pieces[index]), index))
        marks.append(mark)
        # What was chosen covers the mark before and goes on up to here, so this is the first sign that isn't covered.
        mark = -less
    return (tuple(chosen), tuple(marks))


def has_cover_form(pieces, chosen):
    """Whether a thing is a row of rows (place, index), each index that of a piece."""
    if not is_row(chosen):
        return False
    return all([are_numbers(row, 2) and is_whole(row[1], 0, len(pieces) - 1) for row in chosen])


def is_cover(text, pieces, chosen):
    """Whether all chosen pieces stand at their places, and each sign lies in one of them."""
    if not has_cover_form(pieces, chosen):
        return False
    if not all([fits_at(text, pieces[index], place) for place, index in chosen]):
        return False
    covered = 0
    for place, end in sorted([(place, place + len(pieces[index])) for place, index in chosen]):
        if place > covered:
            return False
        covered = max(covered, end)
    return covered == len(text)


def are_marks(text, pieces, marks):
    """Whether marks are rising places of which no piece, wherever it stands, covers two."""
    if not are_rising_indexes(marks, len(text)):
        return False
    best = farthest(text, pieces)
    # A piece that covers two of them covers two that are next to one another.
    return all([-best[one][0] <= other for one, other in zip(marks, marks[1:])])
