"""Tables of what the orders of each set of words save at most."""

from shortglue.errors import NoTable, TooGreat
from shortglue.kinds import are_numbers, is_row

MOST_TABLE_WORDS = 8


def members(mark):
    """The numbers of the words in a mark's set, rising."""
    return [i for i in range(mark.bit_length()) if mark >> i & 1]


def most_saved(family, table, mark, i):
    """What an order of a set that ends with word i saves at most, by the rows of smaller sets."""
    if i not in members(mark):
        return -1
    rest = mark - (1 << i)
    return max([table[rest][j] + family.laps[j][i] for j in members(rest)], default=0)


def table_of(family):
    """A row for each mark: what is saved at most by an order that ends with each word."""
    many = family.many()
    if many > MOST_TABLE_WORDS:
        raise TooGreat(MOST_TABLE_WORDS)
    table = []
    for mark in range(1 << many):
        table.append(tuple([most_saved(family, table, mark, i) for i in range(many)]))
    return tuple(table)


def has_table_form(family, paper):
    """Whether a thing is a row of a row for each mark, of a number for each word."""
    many = family.many()
    if many > MOST_TABLE_WORDS or not is_row(paper) or len(paper) != 1 << many:
        return False
    return all([are_numbers(row, many) for row in paper])


def is_enough(family, paper, mark, i):
    """Whether a paper's number is no less than its smaller sets ask for, or -1 outside the set."""
    least = most_saved(family, paper, mark, i)
    return paper[mark][i] == -1 if least == -1 else paper[mark][i] >= least


def table_bound(family, paper):
    """The bound that a table of numbers that are great enough shows, or None if it is none."""
    if not has_table_form(family, paper):
        return None
    numbers = list(range(family.many()))
    if not all([is_enough(family, paper, mark, i) for mark in range(len(paper)) for i in numbers]):
        return None
    return family.total - max(paper[-1], default=0)


def is_table(family, paper):
    """Whether a paper is what table_of tells, as rows of any kind."""
    return has_table_form(family, paper) and tuple([tuple(row) for row in paper]) == table_of(family)


def word_before(family, table, mark, i):
    """The least word that may stand before the last word i of a set where the most is saved."""
    rest = mark - (1 << i)
    return min([j for j in members(rest) if table[rest][j] + family.laps[j][i] == table[mark][i]])


def order_by(family, table):
    """An order that saves the most, read out of the table."""
    if not is_table(family, table):
        raise NoTable()
    mark = len(table) - 1
    if mark == 0:
        return ()
    row = list(table[mark])
    backwards = [row.index(max(row))]
    while mark != 1 << backwards[-1]:
        i = backwards[-1]
        backwards.append(word_before(family, table, mark, i))
        mark -= 1 << i
    return tuple(backwards[::-1])
