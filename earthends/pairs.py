"""Pairs: which two leaks make a day of two.

They lie on a curve (WHOLE, WEST, EAST, LACK, SHARE), WHOLE being all drag and SHARE being EARTH times LACK. A pair is
told by `near`, the drag from the west end to its west leak, or by `far`, that from the west end to its east leak.
"""

from earthends.cables import drag_of, drag_to, place_at
from earthends.days import kind_of, seen_by
from earthends.errors import NoPair, NoPlace
from earthends.fractions import ZERO, below, minus, over, plus, times
from earthends.stretches import lack_of


def curve_of(cable, day):
    """The curve of a day of two."""
    seen = seen_by(cable, day)
    if kind_of(cable, day)[0] != "two":
        raise NoPair("not a day of two leaks")
    whole = drag_of(cable)
    lack = lack_of(whole, seen)
    west, east, earth = seen
    return (whole, west, east, lack, times(earth, lack))


def last_near(curve):
    """The greatest drag to a west leak: that of the pair whose east leak is at the east end."""
    whole, west, east, lack, share = curve
    return minus(west, over(share, east))


def first_far(curve):
    """The least drag to an east leak: that of the pair whose west leak is at the west end."""
    return far_of(curve, ZERO)


def far_of(curve, near):
    """The drag to the east leak by that to the west one."""
    whole, west, east, lack, share = curve
    return plus(minus(whole, east), over(share, minus(west, near)))


def near_of(curve, far):
    """The drag to the west leak by that to the east one."""
    whole, west, east, lack, share = curve
    return minus(west, over(share, minus(far, minus(whole, east))))


def pair_of(cable, curve, near):
    """Both leaks of the pair with this drag to its west leak."""
    whole, west, east, lack, share = curve
    far = far_of(curve, near)
    seen_west = minus(west, near)
    seen_east = over(share, seen_west)
    between = over(minus(far, near), lack)
    return ((place_at(cable, near), times(seen_west, between)), (place_at(cable, far), times(seen_east, between)))


def drag_within(cable, place, least, greatest):
    """The drag to a place between these two drags."""
    drag = drag_to(cable, place)
    if below(drag, least) or below(greatest, drag):
        raise NoPlace("not a place in the span of the leak")
    return drag


def near_at(cable, curve, place):
    """The drag to a west leak at this place."""
    return drag_within(cable, place, ZERO, last_near(curve))


def west_span(cable, day):
    """The least and the greatest place of the west leak."""
    curve = curve_of(cable, day)
    return (ZERO, place_at(cable, last_near(curve)))


def east_span(cable, day):
    """The least and the greatest place of the east leak."""
    curve = curve_of(cable, day)
    return (place_at(cable, first_far(curve)), place_at(cable, curve[0]))


def east_of(cable, day, place):
    """The east leak's place by the west one's."""
    curve = curve_of(cable, day)
    return place_at(cable, far_of(curve, near_at(cable, curve, place)))


def west_of(cable, day, place):
    """The west leak's place by the east one's."""
    curve = curve_of(cable, day)
    return place_at(cable, near_of(curve, drag_within(cable, place, first_far(curve), curve[0])))


def pair_at(cable, day, place):
    """Both leaks by the west one's place."""
    curve = curve_of(cable, day)
    return pair_of(cable, curve, near_at(cable, curve, place))
