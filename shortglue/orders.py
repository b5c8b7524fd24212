"""Orders of a family's words, and the texts that they tell."""

from shortglue.errors import NoOrder
from shortglue.kinds import are_numbers


def is_order(thing, many):
    """Whether a thing is a row of the numbers from 0 to below many, each once."""
    return are_numbers(thing, many) and sorted(thing) == list(range(many))


def check_order(family, order):
    """Refuses what is no order of all words."""
    if not is_order(order, family.many()):
        raise NoOrder()


def glue_all(words, laps, row):
    """The words whose numbers a row tells, each glued on by the lap of the one before."""
    text = "".join([words[number] for number in row[:1]])
    for before, number in zip(row, row[1:]):
        text += words[number][laps[before][number]:]
    return text


def text_of(family, order):
    """The text that an order of all words tells."""
    check_order(family, order)
    return glue_all(family.words, family.laps, order)


def starts_of(family, order):
    """The place at which each word, by its number, begins in the text of an order."""
    check_order(family, order)
    starts = [0 for number in order]
    for before, number in zip(order, order[1:]):
        starts[number] = starts[before] + len(family.words[before]) - family.laps[before][number]
    return tuple(starts)


def saved(family, order):
    """What the laps of an order come to."""
    check_order(family, order)
    return sum([family.laps[before][number] for before, number in zip(order, order[1:])])
