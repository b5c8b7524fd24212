"""The shortest text that holds all words, the first in order of signs."""

from shortglue.errors import TooGreat
from shortglue.tables import members

MOST_SHORTEST_WORDS = 12


def is_ahead(one, other):
    """Whether a text is shorter than another one, or of one length and first in order of signs."""
    if len(one) != len(other):
        return len(one) < len(other)
    return one < other


def foremost(texts):
    """The text that is ahead of all others, of one text at least."""
    best = texts[0]
    for text in texts[1:]:
        if is_ahead(text, best):
            best = text
    return best


def check_few_words(family):
    """Refuses a family of too many words."""
    if family.many() > MOST_SHORTEST_WORDS:
        raise TooGreat(MOST_SHORTEST_WORDS)


def heads_of(words, laps):
    """A table of texts: word i without its lap on word j."""
    return [[word[:len(word) - k] for k in row] for word, row in zip(words, laps)]


def sets_left(many):
    """The choices for each mark of words that are left: each word of it, and the mark without that word."""
    return [[(i, mark - (1 << i)) for i in members(mark)] for mark in range(1 << many)]


def all_ends(heads, lasts, lefts):
    """For each number of what is left, and each word before it, the end that is ahead.

    The end begins with that word and goes on with what is left, in whichever
    order. lefts tells for each number the choices (j, rest): word j comes next,
    and rest, a number told before, is left behind it. Word i tells heads[i][j]
    ahead of word j, or lasts[i] as the last.
    """
    ends = []
    for choices in lefts:
        nexts = [(j, ends[rest][j]) for j, rest in choices]
        # What stands before is the same for all of them, so the foremost end
        # alone can become a part of the foremost text.
        ends.append([foremost([row[j] + end for j, end in nexts]) for row in heads] if nexts else list(lasts))
    return ends


def foremost_text(words, laps, lefts):
    """The text that is ahead of all that words glued by their laps make, when the last number is left."""
    ends = all_ends(heads_of(words, laps), words, lefts)
    return foremost([ends[rest][j] for j, rest in lefts[-1]] or [""])


def shortest(family):
    """The text that is ahead of all others that hold all words."""
    check_few_words(family)
    return foremost_text(family.words, family.laps, sets_left(family.many()))
