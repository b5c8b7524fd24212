"""Prices of words, which show how short no text can be."""

from shortglue.kinds import are_prices, is_row
from shortglue.pairing import best_pairing


def other_pairs(many):
    """All pairs (i, j) of different numbers from 0 to below many."""
    numbers = list(range(many))
    return [(i, j) for i in numbers for j in numbers if i != j]


def price_bound(family, paper):
    """The bound that a paper (gives, takes) shows, or None if it is no such paper."""
    many = family.many()
    if not is_row(paper) or len(paper) != 2 or not all([are_prices(row, many) for row in paper]):
        return None
    gives, takes = paper
    if any([gives[i] + takes[j] < family.laps[i][j] for i, j in other_pairs(many)]):
        return None
    return family.total - sum(gives) - sum(takes)


def prices_of(family):
    """A paper (gives, takes) than which none tells a greater bound."""
    # A word's own lap asks nothing. With 0 in its place the prices come to what
    # some joins of different words save, and no right prices come to less.
    rows = [[k if i != j else 0 for j, k in enumerate(row)] for i, row in enumerate(family.laps)]
    return best_pairing(rows)[1:]
