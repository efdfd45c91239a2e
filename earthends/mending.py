"""Cables mended: a length exchanged, two cables added, one turned about, and their leaks likewise."""

from earthends.cables import MOST_LENGTHS, is_length, need_cable, steps_of
from earthends.errors import NoLength, NoNumber
from earthends.fractions import is_whole, minus
from earthends.leaks import moved, need_leaks


def need_number(cable, number):
    """Refuse what is no number of a length of this cable."""
    if not is_whole(number) or not 0 <= number < len(cable[0]):
        raise NoNumber("not the number of a length of the cable")


def need_length(length):
    """Refuse what is no length."""
    if not is_length(length):
        raise NoLength("not a length")


def exchanged(cable, number, length):
    """The cable with a length in the place of that with this number, from 0."""
    need_cable(cable)
    need_number(cable, number)
    need_length(length)
    lengths, back = cable
    return (lengths[:number] + (length,) + lengths[number + 1:], back)


def added(one, other):
    """Two cables as one, with the west one's wire back."""
    need_cable(one)
    need_cable(other)
    lengths = one[0] + other[0]
    if len(lengths) > MOST_LENGTHS:
        raise NoLength("too many lengths together")
    return (lengths, one[1])


def turned(cable):
    """The cable turned about."""
    need_cable(cable)
    lengths, back = cable
    return (lengths[::-1], back)


def leaks_turned(cable, leaks):
    """The leaks of a cable by places of it turned about."""
    need_cable(cable)
    need_leaks(cable, leaks)
    whole = (steps_of(cable), 1)
    return tuple([(minus(whole, place), drag) for place, drag in leaks[::-1]])


def leaks_added(one, leaks, other, others):
    """The leaks of two cables by places of both as one."""
    need_cable(one)
    need_leaks(one, leaks)
    need_cable(other)
    need_leaks(other, others)
    together = added(one, other)
    both = leaks + moved(others, steps_of(one))
    need_leaks(together, both)
    return both
