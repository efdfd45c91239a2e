"""The five measures of a cable at its ends."""

from earthends.errors import NoWord
from earthends.fractions import over, plus, times
from earthends.stretches import stretch_of

LOOP = "loop"
# Measured at one end against earth, the other end free or led to earth.
END_WORDS = ("west free", "east free", "west earth", "east earth")


def is_end_word(x):
    """Whether x, of any kind, is the word of a measure free or earth."""
    return isinstance(x, str) and x in END_WORDS


def is_loop_word(x):
    """Whether x, of any kind, is the word of the measure over the wire back."""
    return isinstance(x, str) and x == LOOP


def is_free(word):
    """Whether the far end is free by this word."""
    return word.endswith("free")


def is_west(word):
    """Whether the near end is the west one by this word."""
    return word.startswith("west")


def near_and_far(word, west, east):
    """What is west and east, that of the end where it is measured first."""
    return (west, east) if is_west(word) else (east, west)


def side_by_side(one, other):
    """What two drags drag together where both lead to one point, not both of them 0."""
    return over(times(one, other), plus(one, other))


def reading_of(word, seen):
    """The reading of a measure free or earth, by what the ends see of earth."""
    west, east, earth = seen
    near, far = near_and_far(word, west, east)
    if is_free(word):
        return plus(near, earth)
    return plus(near, side_by_side(earth, far))


def loop_of(back, stretch):
    """The reading over the wire back."""
    drag, seen = stretch
    if seen is None:
        return plus(back, drag)
    return plus(back, plus(seen[0], seen[1]))


def measure(cable, leaks, word):
    """The reading of a cable with leaks by the word of a measure, None where nothing leads to earth."""
    stretch = stretch_of(cable, leaks)
    if is_loop_word(word):
        return loop_of(cable[1], stretch)
    if not is_end_word(word):
        raise NoWord("not the word of a measure")
    drag, seen = stretch
    if seen is not None:
        return reading_of(word, seen)
    return None if is_free(word) else drag
