"""Gapped pieces: small letters, and question marks that stand for any sign."""

from shortglue.signs import MOST_SIGNS, is_text


def is_gapped(thing):
    """Whether a thing is a gapped piece."""
    return isinstance(thing, str) and is_text(thing.replace("?", "a"), 1, MOST_SIGNS)


def fits_at(text, gapped, place):
    """Whether a gapped piece stands in a text at a place, any whole number."""
    if not 0 <= place <= len(text) - len(gapped):
        return False
    for sign, own in zip(text[place:place + len(gapped)], gapped):
        if own != "?" and own != sign:
            return False
    return True


def gapped_places(text, gapped):
    """All places at which a gapped piece stands in a text, rising."""
    return tuple([place for place in range(len(text)) if fits_at(text, gapped, place)])
