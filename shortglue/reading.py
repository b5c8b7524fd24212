"""Pieces read from a text of lines, and shown as such."""

from shortglue.errors import NoLine, TooMany
from shortglue.signs import MOST_PIECES, MOST_SIGNS, is_text


def read_pieces(text):
    """The pieces of a text, a line each; blanks at a line's ends and empty lines count for nothing."""
    pieces = []
    for at, line in enumerate(text.split("\n")):
        piece = line.strip(" ")
        if piece != "" and not is_text(piece, 1, MOST_SIGNS):
            raise NoLine(at)
        if piece != "":
            pieces.append(piece)
    if len(pieces) > MOST_PIECES:
        raise TooMany(MOST_PIECES)
    return tuple(pieces)


def show_pieces(pieces):
    """Each piece with a line feed behind it."""
    return "".join([piece + "\n" for piece in pieces])
