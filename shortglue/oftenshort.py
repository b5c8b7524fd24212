"""The shortest text that holds each piece often enough, the first in order of signs."""

from shortglue.often import steps_of
from shortglue.shortest import foremost_text


def choices_left(counts, steps, number):
    """The pieces of which some are left, each with the number of what is left behind it."""
    return [(i, number - step) for i, step in enumerate(steps) if number // step % (counts[i] + 1) > 0]


def shortest_often(often):
    """The text that is ahead of all others that hold each piece often enough."""
    steps, many = steps_of(often.counts)
    lefts = [choices_left(often.counts, steps, number) for number in range(many)]
    return foremost_text(often.pieces, often.laps, lefts)
