"""What several tests hand in."""

import contextlib
import signal
from itertools import product


def nested(kind, depth, core):
    """A thing of so many rows or dicts within one another."""
    thing = core
    for _ in range(depth):
        thing = {"a": thing} if kind is dict else kind([thing])
    return thing


def odd_things():
    """Things of every kind that "whatever it is" allows, made anew each time."""
    return [
        0, 1, 2, -1, 41, 10 ** 30, -(10 ** 30), 10 ** 5000, -(10 ** 5000),
        True, False, None,
        "", "a", "b", "ab", "A", "0", "01", " ", "\n", "a\n", "a%", "\u00e9", "\ud800", "\x00", "x" * 5000,
        [], (), {}, [[]], ((),), [()], ({},), {"a": []}, {0: 1}, {0: 0, 1: 1}, {None: None}, {(): ()},
        [None], (None,), [True], (False,), [False, True], (0, True), (False, 1), ["a"], ("a", "b"), ["ab", 1],
        [0, 0], (1, 1), [0, -1], (0, 2), [10 ** 30], (0, 10 ** 5000), [0, None], [0, "1"], [[0], [1]], ((0, 1),),
        [(0, 1, True)], [(0, 1, None)], [(0, 1)], [(0, 1, 0, 0)], ["abc"], [{0: 0, 1: 1, 2: 2}], [None, None],
        nested(list, 30, 0), nested(tuple, 30, None), nested(dict, 30, "a"), nested(list, 29, {}),
        [nested(tuple, 29, True)] * 3,
    ]


def all_texts(letters, most, least=0):
    """All texts of these letters with from least to most signs."""
    return ["".join(signs) for many in range(least, most + 1) for signs in product(letters, repeat=many)]


def is_plain(thing):
    """Whether a thing is made of tuples, texts and whole numbers alone."""
    if isinstance(thing, tuple):
        return all(is_plain(item) for item in thing)
    return isinstance(thing, (str, int)) and not isinstance(thing, bool)


def some_pieces(source, many, letters="ab", most=6):
    """Some pieces, of a random source that the test hands in with its own seed."""
    return ["".join(source.choice(letters) for _ in range(source.randrange(1, most + 1))) for _ in range(many)]


def as_lists(thing):
    """The same thing with lists in the place of tuples, made anew."""
    return [as_lists(item) for item in thing] if isinstance(thing, (list, tuple)) else thing


def words_of_length(source, many, letters, signs):
    """So many different pieces of one length: none of them is left out of a family."""
    words = {}
    while len(words) < many:
        words["".join(source.choice(letters) for _ in range(signs))] = True
    return list(words)


def ahead_of_all(texts):
    """The shortest text, of several the first in order of signs."""
    return min(texts, key=lambda text: (len(text), text))


@contextlib.contextmanager
def soon(seconds=30):
    """Fails if what is done within takes far longer than it should, in time of its own process."""
    def too_long(number, frame):
        raise AssertionError("not answered soon")

    before = signal.signal(signal.SIGVTALRM, too_long)
    signal.setitimer(signal.ITIMER_VIRTUAL, seconds)
    try:
        yield
    finally:
        signal.setitimer(signal.ITIMER_VIRTUAL, 0)
        signal.signal(signal.SIGVTALRM, before)
