"""Laps with slips, and reads put together whose last signs may be wrong."""

from shortglue.errors import NoWords
from shortglue.families import check_pieces


def slip_places(one, other):
    """The places at which two texts of one length differ, rising."""
    return tuple([at for at, (sign, wanted) in enumerate(zip(one, other)) if sign != wanted])


def many_slips(one, other):
    """At how many places two texts of one length differ."""
    return len(slip_places(one, other))


def slip_lap(one, other, most):
    """The greatest k by which a text laps on another one with no more than so many slips."""
    for k in range(min(len(one), len(other)) - 1, 0, -1):
        if many_slips(one[len(one) - k:], other[:k]) <= most:
            return k
    return 0


def put_right(reads, most):
    """The text that reads make in their order, where each begins, and where each differs from the text."""
    if len(reads) == 0:
        raise NoWords()
    check_pieces(reads)
    text = reads[0]
    starts = [0]
    for before, read in zip(reads, reads[1:]):
        start = len(text) - slip_lap(before, read, most)
        starts.append(start)
        # A read's first signs are trusted more than the last ones of the read before it.
        text = text[:start] + read
    slips = [slip_places(read, text[start:start + len(read)]) for read, start in zip(reads, starts)]
    return (text, tuple(starts), tuple(slips))
