"""Pairings that tell the most of a table, with prices that show it."""

from shortglue.errors import NoTable
from shortglue.kinds import are_prices, is_row
from shortglue.orders import is_order
from shortglue.signs import is_whole

MOST_ROWS = 40
MOST_NUMBER = 1000000


def is_square(thing):
    """Whether a thing is a table of as many numbers in each row as there are rows."""
    if not is_row(thing) or len(thing) > MOST_ROWS:
        return False
    if not all([is_row(row) and len(row) == len(thing) for row in thing]):
        return False
    return all([is_whole(item, 0, MOST_NUMBER) for row in thing for item in row])


def way_to_free(rows, gives, takes, leaders, start):
    """The columns on the ways from a row to the nearest free column, which comes last.

    Each has its distance and the column before it (-1 behind the row itself);
    a way's length is what its steps' prices have above the table, together.
    """
    reached = {}
    near = {}
    i, distance, column = start, 0, -1
    while i >= 0:
        for j, number in enumerate(rows[i]):
            step = distance + gives[i] + takes[j] - number
            if j not in reached and (j not in near or step < near[j][0]):
                near[j] = (step, column)
        distance, column = min([(near[j][0], j) for j in near])
        reached[column] = near.pop(column)
        i = leaders[column]
    return reached


def pair_one_more(rows, gives, takes, leaders, start):
    """Gives one more row a column, and changes prices and pairs so that they fit."""
    reached = way_to_free(rows, gives, takes, leaders, start)
    column = list(reached)[-1]
    farthest = reached[column][0]
    # A free column's price stays 0, and no sum falls below the table, so no
    # row's price falls below 0 as long as a column is free.
    gives[start] -= farthest
    for j in reached:
        if leaders[j] >= 0:
            takes[j] += farthest - reached[j][0]
            gives[leaders[j]] -= farthest - reached[j][0]
    while column >= 0:
        before = reached[column][1]
        leaders[column] = leaders[before] if before >= 0 else start
        column = before


def best_pairing(rows):
    """A pairing that tells as much as any, and the prices that show it."""
    if not is_square(rows):
        raise NoTable()
    gives = [max(row) for row in rows]
    takes = [0 for row in rows]
    leaders = [-1 for row in rows]
    for start in range(len(rows)):
        pair_one_more(rows, gives, takes, leaders, start)
    followers = tuple([leaders.index(i) for i in range(len(rows))])
    return (followers, tuple(gives), tuple(takes))


def is_pairing_paper(rows, paper):
    """Whether rows is a table, and paper a pairing of it with prices that show it to be best."""
    if not is_square(rows) or not is_row(paper) or len(paper) != 3:
        return False
    followers, gives, takes = paper
    many = len(rows)
    if not is_order(followers, many) or not are_prices(gives, many) or not are_prices(takes, many):
        return False
    numbers = list(range(many))
    if any([gives[i] + takes[j] < rows[i][j] for i in numbers for j in numbers]):
        return False
    return all([gives[i] + takes[j] == rows[i][j] for i, j in enumerate(followers)])
