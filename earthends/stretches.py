"""Stretches: tuples (DRAG, SEEN), what a stretch drags and what its two ends see of earth."""

from earthends.cables import drag_of, drag_to, need_cable
from earthends.errors import NoStretch
from earthends.fractions import (
    ZERO, below, is_above_zero, is_from_zero, is_tuple_of, minus, over, plus, times,
)
from earthends.leaks import need_leaks


def lack_of(drag, seen):
    """What the ends do not see of the drag between them."""
    return minus(drag, plus(seen[0], seen[1]))


def is_seen(drag, x):
    """Whether x, of any kind, is what the ends of a stretch with this drag see of earth."""
    if not is_tuple_of(x, 3):
        return False
    west, east, earth = x
    if not is_from_zero(west) or not is_from_zero(east) or not is_above_zero(earth):
        return False
    lack = lack_of(drag, x)
    return is_from_zero(lack) and not below(times(west, east), times(earth, lack))


def is_stretch(x):
    """Whether x, of any kind, is a stretch."""
    if not is_tuple_of(x, 2) or not is_from_zero(x[0]):
        return False
    return x[1] is None or is_seen(x[0], x[1])


def seen_joined(one, other):
    """What the ends see where both stretches see earth."""
    between = plus(one[1], other[0])
    divisor = plus(plus(one[2], other[2]), between)
    share = over(between, divisor)
    return (
        plus(one[0], times(one[2], share)),
        plus(other[1], times(other[2], share)),
        over(times(one[2], other[2]), divisor),
    )


def put_together(one, other):
    """Two stretches joined, the first one west of the other."""
    drag = plus(one[0], other[0])
    if one[1] is None and other[1] is None:
        return (drag, None)
    if one[1] is None:
        west, east, earth = other[1]
        return (drag, (plus(one[0], west), east, earth))
    if other[1] is None:
        west, east, earth = one[1]
        return (drag, (west, plus(east, other[0]), earth))
    return (drag, seen_joined(one[1], other[1]))


def joined(one, other):
    """Two stretches joined, the first one west of the other."""
    if not is_stretch(one) or not is_stretch(other):
        raise NoStretch("not a stretch")
    return put_together(one, other)


def stretch_of(cable, leaks):
    """The stretch of a cable with leaks."""
    need_cable(cable)
    need_leaks(cable, leaks)
    stretch = (ZERO, None)
    for place, earth in leaks:
        piece = minus(drag_to(cable, place), stretch[0])
        stretch = put_together(stretch, (piece, None))
        stretch = put_together(stretch, (ZERO, (ZERO, ZERO, earth)))
    return put_together(stretch, (minus(drag_of(cable), stretch[0]), None))
