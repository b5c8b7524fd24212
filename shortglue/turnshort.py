"""The shortest text that holds all words some way, the first in order of signs."""

from shortglue.errors import TooGreat
from shortglue.shortest import foremost_text, sets_left

MOST_TURNED_WORDS = 6


def shortest_turned(turnable):
    """The text that is ahead of all others that hold all words some way."""
    many = turnable.many()
    if many > MOST_TURNED_WORDS:
        raise TooGreat(MOST_TURNED_WORDS)
    # A word that comes next may come either way.
    lefts = [[(2 * i + way, rest) for i, rest in choices for way in (0, 1)] for choices in sets_left(many)]
    return foremost_text(turnable.states, turnable.laps, lefts)
