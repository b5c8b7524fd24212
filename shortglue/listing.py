"""Rows of text that tell places and prices."""

from shortglue.errors import NoPaper, NotHeld
from shortglue.kinds import is_number
from shortglue.prices import price_bound
from shortglue.signs import stands_at


def listed(text, pieces, places):
    """A row for each piece and its place."""
    for at, piece in enumerate(pieces):
        if not is_number(places[at]) or not stands_at(text, piece, places[at]):
            raise NotHeld(at)
    return tuple([f"{piece} at {place}" for piece, place in zip(pieces, places)])


def digits(number):
    """A whole number of any size as a text."""
    if number < 0:
        return "-" + digits(-number)
    # Python's own str refuses numbers of some thousand digits, so they're told part by part.
    parts = []
    rest = number
    while rest >= 10 ** 64:
        rest, part = divmod(rest, 10 ** 64)
        parts.append(str(part).zfill(64))
    parts.append(str(rest))
    return "".join(parts[::-1])


def why_rows(family, paper):
    """A row for each word's prices, and one for the bound that they show."""
    bound = price_bound(family, paper)
    if bound is None:
        raise NoPaper()
    gives, takes = paper
    rows = []
    for word, give, take in zip(family.words, gives, takes):
        rows.append(f"{word} gives {digits(give)} takes {digits(take)}")
    rows.append(f"{family.total} less {digits(sum(gives) + sum(takes))} is {digits(bound)}")
    return tuple(rows)
