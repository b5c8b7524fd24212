"""Round texts, which are read on from their beginning when their end is reached."""

from shortglue.errors import NotHeld, NoWords
from shortglue.kinds import are_numbers
from shortglue.orders import check_order
from shortglue.rings import joins_round
from shortglue.shortest import heads_of


def read_round(ring, many):
    """The first so many signs that are read from a round text's beginning on."""
    return (ring * (many // len(ring) + 1))[:many]


def stands_round(ring, piece, place):
    """Whether a piece's signs are read from a place of a round text on."""
    if not 0 <= place < len(ring):
        return False
    return read_round(ring, place + len(piece))[place:] == piece


def is_round_held(ring, pieces, places):
    """Whether places is a row of a place for each piece, at which it stands round."""
    if not are_numbers(places, len(pieces)):
        return False
    return all([stands_round(ring, piece, place) for piece, place in zip(pieces, places)])


def first_round_place(ring, piece):
    """The least place at which a piece stands round, or -1."""
    # So many signs that the last place at which it could stand is the ring's last.
    return read_round(ring, len(ring) + len(piece) - 1).find(piece)


def check_words(family):
    """Refuses a family of no words."""
    if family.many() == 0:
        raise NoWords()


def round_of(family, order):
    """The round text of an order: each word without its lap on the next."""
    check_words(family)
    check_order(family, order)
    heads = heads_of(family.words, family.laps)
    return "".join([heads[i][j] for i, j in joins_round(order)])


def round_order(family, ring):
    """The words by their first places in a round text, from word 0 on."""
    check_words(family)
    found = [first_round_place(ring, word) for word in family.words]
    for number, place in enumerate(found):
        if place < 0:
            raise NotHeld(family.kept[number])
    turns = [((place - found[0]) % len(ring), number) for number, place in enumerate(found)]
    return tuple([number for turn, number in sorted(turns)])
