"""Cables: tuples (LENGTHS, BACK), their splices, and the drags of their places."""

from earthends.errors import NoCable, NoDrag, NoPlace
from earthends.fractions import (
    ZERO, is_above_zero, is_from_zero, is_tuple_of, is_up_to, is_whole, lesser, minus, over, plus, times,
)

MOST_LENGTHS = 12
MOST_NUMBER = 999


def is_small(x):
    """Whether no number of a fraction from 0 on passes the bound of cables."""
    return x[0] <= MOST_NUMBER and x[1] <= MOST_NUMBER


def is_length(x):
    """Whether x, of any kind, is a length of a cable."""
    if not is_tuple_of(x, 2) or not is_whole(x[0]) or not 1 <= x[0] <= MOST_NUMBER:
        return False
    return is_above_zero(x[1]) and is_small(x[1])


def is_back(x):
    """Whether x, of any kind, is the drag of a wire back."""
    return is_from_zero(x) and is_small(x)


def is_cable(x):
    """Whether x, of any kind, is a cable."""
    if not is_tuple_of(x, 2) or not isinstance(x[0], tuple) or not 1 <= len(x[0]) <= MOST_LENGTHS:
        return False
    return all([is_length(length) for length in x[0]]) and is_back(x[1])


def need_cable(cable):
    """Refuse what is no cable."""
    if not is_cable(cable):
        raise NoCable("not a cable")


def steps_of(cable):
    """All steps of a cable, a whole number."""
    need_cable(cable)
    return steps_ahead(cable, len(cable[0]))


def steps_ahead(cable, number):
    """The steps from the west end to the length with this number, from 0."""
    return sum([steps for steps, each in cable[0][:number]])


def drag_of(cable):
    """All that a cable drags from end to end."""
    need_cable(cable)
    drag = ZERO
    for length in cable[0]:
        drag = plus(drag, drag_of_length(length))
    return drag


def drag_of_length(length):
    """All that a length drags."""
    return times((length[0], 1), length[1])


def splices_of(cable):
    """The steps from the west end to each splice, whole numbers."""
    need_cable(cable)
    return tuple([steps_ahead(cable, number) for number in range(1, len(cable[0]))])


def is_place(cable, x):
    """Whether x, of any kind, is a place of this cable."""
    return is_up_to(x, (steps_of(cable), 1))


def need_place(cable, place):
    """Refuse what is no place of this cable."""
    if not is_place(cable, place):
        raise NoPlace("not a place of the cable")


def drag_to(cable, place):
    """What drags west of a place."""
    need_cable(cable)
    need_place(cable, place)
    drag = ZERO
    left = place
    for steps, each in cable[0]:
        here = lesser(left, (steps, 1))
        drag = plus(drag, times(here, each))
        left = minus(left, here)
    return drag


def place_at(cable, drag):
    """The place west of which so much drags."""
    if not is_up_to(drag, drag_of(cable)):
        raise NoDrag("not a drag of the cable")
    place = ZERO
    left = drag
    for length in cable[0]:
        here = lesser(left, drag_of_length(length))
        place = plus(place, over(here, length[1]))
        left = minus(left, here)
    return place
