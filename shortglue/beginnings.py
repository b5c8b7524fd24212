"""All beginnings of some pieces, numbered as they come."""

from shortglue.laps import lap


class Beginnings:
    """Keeps the beginnings of some pieces, each once."""

    def __init__(self, words):
        self.words = tuple(words)
        self.numbers = {"": 0}
        for word in self.words:
            for k in range(1, len(word) + 1):
                self.numbers.setdefault(word[:k], len(self.numbers))

    def many(self):
        """How many beginnings there are, the empty one too."""
        return len(self.numbers)

    def number_of(self, text):
        """A beginning's number, or None if the text is none."""
        return self.numbers.get(text)

    def longest_end(self, text):
        """The length of the longest beginning that a text ends with."""
        longest = max([len(word) for word in self.words], default=0)
        for k in range(min(longest, len(text)), 0, -1):
            if text[len(text) - k:] in self.numbers:
                return k
        return 0

    def laps_of(self, text):
        """The laps of a text on each of the pieces, in their order."""
        return tuple([lap(text, word) for word in self.words])
