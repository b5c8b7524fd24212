"""Prices of words, which show how short no text can be."""

from shortglue.kinds import is_price_paper
from shortglue.pairing import best_pairing


def other_pairs(many):
    """All pairs (i, j) of different numbers from 0 to below many."""
    numbers = list(range(many))
    return [(i, j) for i in numbers for j in numbers if i != j]


def pays_laps(paper, laps, pairs):
    """Whether a thing is a paper (gives, takes) whose prices come up to the laps of these pairs."""
    if not is_price_paper(paper, len(laps)):
        return False
    gives, takes = paper
    return all([gives[i] + takes[j] >= laps[i][j] for i, j in pairs])


def price_bound(family, paper):
    """The bound that a paper (gives, takes) shows, or None if it is no such paper."""
    if not pays_laps(paper, family.laps, other_pairs(family.many())):
        return None
    gives, takes = paper
    return family.total - sum(gives) - sum(takes)


def prices_of(family):
    """A paper (gives, takes) than which none tells a greater bound."""
    # A word's own lap asks nothing. With 0 in its place the prices come to what
    # some joins of different words save, and no right prices come to less.
    rows = [[k if i != j else 0 for j, k in enumerate(row)] for i, row in enumerate(family.laps)]
    return best_pairing(rows)[1:]
