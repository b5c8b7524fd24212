"""Texts and whole numbers, and where a piece stands in a text."""

from shortglue.kinds import is_number

MOST_TEXT = 4000
MOST_SIGNS = 60
MOST_PIECES = 40


def is_text(thing, least=0, most=MOST_TEXT):
    """Whether a thing is a text of small letters with from least to most signs."""
    if not isinstance(thing, str) or not least <= len(thing) <= most:
        return False
    return all(["a" <= sign <= "z" for sign in thing])


def is_whole(thing, least, most):
    """Whether a thing is a whole number from least to most."""
    return is_number(thing) and least <= thing <= most


def stands_at(text, piece, place):
    """Whether a piece stands in a text at a place, any whole number."""
    # A place below 0 would be counted from the text's end by Python.
    if not 0 <= place <= len(text) - len(piece):
        return False
    return text[place:place + len(piece)] == piece


def places(text, piece):
    """All places at which a piece stands in a text, rising."""
    found = []
    place = text.find(piece)
    while place >= 0:
        found.append(place)
        # One sign on, not one piece on: it may stand over itself.
        place = text.find(piece, place + 1)
    return tuple(found)


def first_place(text, piece):
    """The first place at which a piece stands in a text, or -1."""
    return text.find(piece)
