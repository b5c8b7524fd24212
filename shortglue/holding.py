"""Texts that hold pieces, and the orders in which they hold words."""

from shortglue.errors import NotHeld
from shortglue.kinds import are_numbers
from shortglue.orders import check_order, text_of
from shortglue.signs import first_place, stands_at


def holds_all(text, pieces):
    """Whether each piece stands in a text."""
    return all([first_place(text, piece) >= 0 for piece in pieces])


def is_holding(text, pieces, places):
    """Whether places is a row of a place for each piece, at which it stands."""
    if not are_numbers(places, len(pieces)):
        return False
    return all([stands_at(text, piece, place) for piece, place in zip(pieces, places)])


def places_in(text, pieces):
    """Each piece's first place in a text."""
    found = tuple([first_place(text, piece) for piece in pieces])
    for at, place in enumerate(found):
        if place < 0:
            raise NotHeld(at)
    return found


def order_in(family, text):
    """The words' numbers by their first places in a text."""
    found = [(first_place(text, word), number) for number, word in enumerate(family.words)]
    for place, number in found:
        if place < 0:
            raise NotHeld(family.kept[number])
    return tuple([number for place, number in sorted(found)])


def settled(family, order):
    """The order that stays as it is when read out of its own text, from an order on."""
    check_order(family, order)
    last = tuple(order)
    fresh = order_in(family, text_of(family, last))
    # Each text is shorter than the one before or the same one, so this ends.
    while fresh != last:
        last = fresh
        fresh = order_in(family, text_of(family, last))
    return last
