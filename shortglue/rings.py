"""Rings of words, each followed by the next and the last by the first."""

from shortglue.errors import NoRing
from shortglue.kinds import is_row
from shortglue.pairing import best_pairing
from shortglue.signs import is_whole


def is_ring(thing, many):
    """Whether a thing is a row of different numbers from 0 to below many, one at least."""
    if not is_row(thing) or len(thing) == 0:
        return False
    return all([is_whole(item, 0, many - 1) for item in thing]) and len(set(thing)) == len(thing)


def check_ring(family, ring):
    """Refuses what is no ring of the family's words."""
    if not is_ring(ring, family.many()):
        raise NoRing()


def joins_round(ring):
    """The pairs (i, j) of a ring, from that of its first two on."""
    return [(i, j) for i, j in zip(ring, ring[1:] + ring[:1])]


def weight(family, ring):
    """The length of a ring's words together less the laps of each on the next."""
    check_ring(family, ring)
    return sum([len(family.words[i]) - family.laps[i][j] for i, j in joins_round(ring)])


def ring_from(followers, first):
    """The ring on which a number lies, from that number on."""
    ring = [first]
    while followers[ring[-1]] != first:
        ring.append(followers[ring[-1]])
    return tuple(ring)


def rings_of(family):
    """The rings of the best pairing of the words' laps."""
    followers = best_pairing(family.laps)[0]
    rings = [ring_from(followers, first) for first in range(family.many())]
    return tuple([ring for first, ring in enumerate(rings) if first == min(ring)])


def opened(family, ring):
    """A ring's words as a row that is cut at the first of the joins with the least lap."""
    check_ring(family, ring)
    laps = [family.laps[i][j] for i, j in joins_round(ring)]
    cut = laps.index(min(laps)) + 1
    return tuple(ring[cut:] + ring[:cut])


def by_rings(family):
    """The order of all rings' opened rows, one behind another."""
    return tuple([number for ring in rings_of(family) for number in opened(family, ring)])
