"""The refusals: each a class of its own, straight below GlueError."""


class GlueError(ValueError):
    """Every refusal of the program stands below this one."""


class TooMany(GlueError):
    """There are more than most things."""

    def __init__(self, most):
        self.most = most


class NoPiece(GlueError):
    """The thing at index at is no piece."""

    def __init__(self, at):
        self.at = at


class NoLap(GlueError):
    """Two texts don't lap by k signs."""

    def __init__(self, k):
        self.k = k


class NoOrder(GlueError):
    """A thing is no order of what it should order."""


class NotHeld(GlueError):
    """The piece at index at doesn't stand where it should."""

    def __init__(self, at):
        self.at = at


class NoTable(GlueError):
    """A thing is no table of the asked form."""


class NoRing(GlueError):
    """A thing is no ring of the family's words."""


class TooGreat(GlueError):
    """There is more to reckon than most allows."""

    def __init__(self, most):
        self.most = most


class NoWords(GlueError):
    """There are no words, and one at least is needed."""


class NotApart(GlueError):
    """The piece at index at stands within another one."""

    def __init__(self, at):
        self.at = at


class NoCounts(GlueError):
    """The count at index at is none, or is missing."""

    def __init__(self, at):
        self.at = at


class NotCovered(GlueError):
    """No piece covers the sign at place at."""

    def __init__(self, at):
        self.at = at


class NoLine(GlueError):
    """The line at index at holds something else than a piece."""

    def __init__(self, at):
        self.at = at


class NoPaper(GlueError):
    """A thing is no paper of the asked form."""


class NotTold(GlueError):
    """There is no such piece among those that were told."""
