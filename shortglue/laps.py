"""Laps: by how many signs one text fits onto the next."""

from shortglue.errors import NoLap


def lap(one, other):
    """The greatest k by which a text laps on another one, or 0."""
    for k in range(min(len(one), len(other)) - 1, 0, -1):
        if one.endswith(other[:k]):
            return k
    return 0


def all_laps(words):
    """The table of the laps of each word on each word, itself too."""
    return tuple([tuple([lap(one, other) for other in words]) for one in words])


def glued(one, other, k):
    """The first text, and behind it the second without its first k signs."""
    if not 0 <= k < min(len(one), len(other)) or not one.endswith(other[:k]):
        raise NoLap(k)
    return one + other[k:]
