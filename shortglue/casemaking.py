"""Case papers made: parts where the best prices don't show enough."""

from shortglue.cases import MOST_CASE_WORDS, case_with, first_case, free_to_give, open_for, parts_of, told_by
from shortglue.errors import TooGreat
from shortglue.pairing import best_pairing
from shortglue.shortest import shortest


def best_end(family, case):
    """The end whose prices tell as little as any in a case."""
    numbers = list(range(family.many()))
    rows = [[0 for j in numbers] for i in numbers]
    # Joins that aren't open ask nothing; with 0 there, words that aren't free
    # are of no use to the pairing, and their prices are 0.
    for i in free_to_give(case):
        for j in open_for(case, i):
            rows[i][j] = family.laps[i][j]
    gives, takes = best_pairing(rows)[1:]
    return ("end", gives, takes)


def paper_of(family, case, most):
    """A case paper that tells no more than so many in a case."""
    end = best_end(family, case)
    if told_by(family, case, end) <= most:
        return end
    # Without a word that is free to give all joins of an order are fixed, and
    # these tell no more than the most that an order saves.
    i = free_to_give(case)[0]
    return ("part", i, tuple([(j, paper_of(family, case_with(case, i, j), most)) for j in parts_of(case, i)]))


def cases_of(family):
    """A case paper whose bound is the length of the shortest text."""
    if family.many() > MOST_CASE_WORDS:
        raise TooGreat(MOST_CASE_WORDS)
    return paper_of(family, first_case(family), family.total - len(shortest(family)))
