"""Case papers: joins are fixed one by one, until prices show enough.

A case is (followers, last): each word's fixed follower and the word that is
told last, None where there is none.
"""

from shortglue.kinds import are_prices, is_number, is_row

MOST_CASE_WORDS = 7


def first_case(family):
    """The case in which nothing is fixed."""
    return (tuple([None for word in family.words]), None)


def case_with(case, i, j):
    """A case with one more join, or with word i told last where j is -1."""
    followers, last = case
    if j == -1:
        return (followers, i)
    return (followers[:i] + (j,) + followers[i + 1:], last)


def free_to_give(case):
    """The words that have no follower and aren't told last, rising."""
    followers, last = case
    return [i for i, follower in enumerate(followers) if follower is None and i != last]


def free_to_take(case):
    """The words that have no leader, rising."""
    followers = case[0]
    return [j for j in range(len(followers)) if j not in followers]


def first_of_chain(case, i):
    """The first word of the chain that ends with word i."""
    followers = case[0]
    first = i
    while first in followers:
        first = followers.index(first)
    return first


def open_for(case, i):
    """The words that are open for a word that is free to give, rising."""
    # Word i itself either has a leader or is the first word of its own chain.
    first = first_of_chain(case, i)
    return [j for j in free_to_take(case) if j != first]


def parts_of(case, i):
    """The j of each row that a part of word i must have, in their order."""
    return ([-1] if case[1] is None else []) + open_for(case, i)


def fixed_laps(family, case):
    """The laps of all fixed joins together."""
    return sum([family.laps[i][j] for i, j in enumerate(case[0]) if j is not None])


def told_by_end(family, case, gives, takes):
    """What prices tell in a case, or None if they aren't right."""
    if not are_prices(gives, family.many()) or not are_prices(takes, family.many()):
        return None
    giving = free_to_give(case)
    if any([gives[i] + takes[j] < family.laps[i][j] for i in giving for j in open_for(case, i)]):
        return None
    return fixed_laps(family, case) + sum([gives[i] for i in giving]) + sum([takes[j] for j in free_to_take(case)])


def told_by_part(family, case, i, rows):
    """The greatest number that the rows' papers tell, or None if one is missing or not right."""
    if not is_number(i) or i not in free_to_give(case):
        return None
    wanted = parts_of(case, i)
    if not is_row(rows) or len(rows) != len(wanted):
        return None
    greatest = None
    for row, j in zip(rows, wanted):
        if not is_row(row) or len(row) != 2 or not is_number(row[0]) or row[0] != j:
            return None
        number = told_by(family, case_with(case, i, j), row[1])
        if number is None:
            return None
        greatest = number if greatest is None else max(greatest, number)
    return greatest


def told_by(family, case, paper):
    """The number that a case paper tells in a case, or None if it is none."""
    if not is_row(paper) or len(paper) != 3:
        return None
    if paper[0] == "end":
        return told_by_end(family, case, paper[1], paper[2])
    if paper[0] == "part":
        return told_by_part(family, case, paper[1], paper[2])
    return None


def case_bound(family, paper):
    """The bound that a case paper shows, or None if it is none."""
    if family.many() > MOST_CASE_WORDS:
        return None
    number = told_by(family, first_case(family), paper)
    return None if number is None else family.total - number
