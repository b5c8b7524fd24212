"""The shortest round text that holds all words, the first in order of signs."""

from shortglue.rounds import check_words
from shortglue.shortest import all_ends, check_few_words, heads_of, sets_left


def shortest_round(family):
    """The round text that is ahead of all others that hold all words and begin with word 0."""
    check_words(family)
    check_few_words(family)
    heads = heads_of(family.words, family.laps)
    # The last word is followed by word 0 again.
    ends = all_ends(heads, [row[0] for row in heads], sets_left(family.many()))
    all_but_first = len(ends) - 2
    return ends[all_but_first][0]
