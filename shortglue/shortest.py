"""The shortest text that holds all words, the first in order of signs."""

from shortglue.errors import TooGreat
from shortglue.tables import members

MOST_SHORTEST_WORDS = 12


def is_ahead(one, other):
    """Whether a text is shorter than another one, or of one length and first in order of signs."""
    if len(one) != len(other):
        return len(one) < len(other)
    return one < other


def foremost(texts):
    """The text that is ahead of all others, of one text at least."""
    best = texts[0]
    for text in texts[1:]:
        if is_ahead(text, best):
            best = text
    return best


def check_few_words(family):
    """Refuses a family of too many words."""
    if family.many() > MOST_SHORTEST_WORDS:
        raise TooGreat(MOST_SHORTEST_WORDS)


def heads_of(family):
    """A table of texts: word i without its lap on word j."""
    return [[word[:len(word) - k] for k in row] for word, row in zip(family.words, family.laps)]


def all_ends(heads, lasts):
    """For each mark of words that are left, and each word not in it, the end that is ahead.

    The end begins with that word, and goes on with the words that are left, in
    whichever order; word i tells heads[i][j] ahead of word j, or lasts[i] as the last.
    """
    numbers = list(range(len(heads)))
    ends = [list(lasts)]
    for mark in range(1, 1 << len(heads)):
        left = members(mark)
        nexts = [(j, ends[mark - (1 << j)][j]) for j in left]
        # What stands before is the same for all of them, so the foremost end
        # alone can become a part of the foremost text.
        ends.append([foremost([heads[i][j] + end for j, end in nexts]) if i not in left else "" for i in numbers])
    return ends


def shortest(family):
    """The text that is ahead of all others that hold all words."""
    check_few_words(family)
    ends = all_ends(heads_of(family), family.words)
    whole = len(ends) - 1
    return foremost([ends[whole - (1 << i)][i] for i in members(whole)] or [""])
