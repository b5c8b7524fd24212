"""What the checkers ask of a thing, whatever it is, before they read it."""


def is_row(thing):
    """Whether a thing is a list or a tuple."""
    return isinstance(thing, (list, tuple))


def is_number(thing):
    """Whether a thing is a whole number, of any size."""
    # Python counts True and False among its ints; here they are no numbers.
    return isinstance(thing, int) and not isinstance(thing, bool)


def are_numbers(thing, many):
    """Whether a thing is a row of just so many whole numbers."""
    return is_row(thing) and len(thing) == many and all([is_number(item) for item in thing])


def are_prices(thing, many):
    """Whether a thing is a row of just so many whole numbers from 0 on."""
    return are_numbers(thing, many) and all([price >= 0 for price in thing])


def is_price_paper(thing, many):
    """Whether a thing is a row of two rows, each of just so many whole numbers from 0 on."""
    return is_row(thing) and len(thing) == 2 and all([are_prices(row, many) for row in thing])
