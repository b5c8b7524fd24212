"""A desk, which keeps pieces and their shortest text."""

from shortglue.errors import NoPiece, NotTold
from shortglue.families import Family
from shortglue.holding import places_in
from shortglue.listing import why_rows
from shortglue.prices import prices_of
from shortglue.shortest import check_few_words, shortest
from shortglue.signs import MOST_SIGNS, first_place, is_text


class Desk:
    """Pieces in the order in which they were told, none at first."""

    def __init__(self):
        self.pieces = ()
        self.text = ""

    def holds(self, piece):
        """Whether the shortest text holds a piece already."""
        return first_place(self.text, piece) >= 0

    def family_with(self, piece):
        """The family with one more piece, where that may be added."""
        if not is_text(piece, 1, MOST_SIGNS):
            raise NoPiece(0)
        # A family refuses one piece too many by itself.
        family = Family(self.pieces + (piece,))
        check_few_words(family)
        return family

    def text_with(self, piece):
        """The text that would be the shortest with one more piece."""
        family = self.family_with(piece)
        # A text that holds the piece already stays ahead of all that hold the others.
        return self.text if self.holds(piece) else shortest(family)

    def add(self, piece):
        """Puts a piece behind the others, and tells whether the text before holds it already."""
        text = self.text_with(piece)
        held = self.holds(piece)
        self.pieces += (piece,)
        self.text = text
        return held

    def drop(self, piece):
        """Takes away the first piece that is the same text, and tells how many are left."""
        if piece not in self.pieces:
            raise NotTold()
        at = self.pieces.index(piece)
        left = self.pieces[:at] + self.pieces[at + 1:]
        # The text goes first: if it is refused, nothing is changed.
        self.text = shortest(Family(left))
        self.pieces = left
        return len(left)

    def told(self):
        """The pieces."""
        return self.pieces

    def shortest_text(self):
        """The shortest text of the pieces' family."""
        return self.text

    def where(self):
        """The pieces' first places in the shortest text."""
        return places_in(self.text, self.pieces)

    def why(self):
        """The rows that tell the best prices and their bound."""
        family = Family(self.pieces)
        return why_rows(family, prices_of(family))

    def length_with(self, piece):
        """The length that the shortest text would have with one more piece."""
        return len(self.text_with(piece))
