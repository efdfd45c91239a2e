"""Leaks of a cable: none to six tuples (PLACE, DRAG), by growing places."""

from earthends.cables import is_cable, is_place
from earthends.errors import NoLeaks
from earthends.fractions import below, is_above_zero, is_tuple_of, plus

MOST_LEAKS = 6


def is_leak(cable, x):
    """Whether x, of any kind, is a leak of this cable."""
    return is_tuple_of(x, 2) and is_place(cable, x[0]) and is_above_zero(x[1])


def grow(places):
    """Whether each of these places is more than the one ahead."""
    return all([below(ahead, behind) for ahead, behind in zip(places, places[1:])])


def is_leaks(cable, x):
    """Whether x is leaks of this cable, both of any kind."""
    if not is_cable(cable) or not isinstance(x, tuple) or len(x) > MOST_LEAKS:
        return False
    return all([is_leak(cable, leak) for leak in x]) and grow([place for place, drag in x])


def need_leaks(cable, leaks):
    """Refuse what is no leaks of this cable."""
    if not is_leaks(cable, leaks):
        raise NoLeaks("not leaks of the cable")


def moved(leaks, steps):
    """Leaks by places that are so many steps more."""
    return tuple([(plus(place, (steps, 1)), drag) for place, drag in leaks])
