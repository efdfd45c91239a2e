"""The checker's claims of several days.

What makes a day is told as its shape: (0,) of a sound one, (1, PLACE) of one leak, (2, CURVE) of two, None of a wrong
one. Two days that leak have the same shape just where they are alike or of one at one place.
"""

from earthends.cables import drag_to, place_at
from earthends.checkcuts import curve_by, far_by, first_far, is_numbers, is_places, last_near, near_by
from earthends.checkleaks import fewest_leaks, is_claim, is_readings, makes, seen_at_ends
from earthends.fractions import (
    below, is_above_zero, is_fraction, is_tuple_of, is_up_to, is_whole, minus, plus, roots_of, times,
)

MOST_DAYS = 12
MOST_PLACES = 2


def is_days_claim(claim, word):
    """Whether a claim, of any kind, has this word, four parts, a cable and days behind the word."""
    if not is_claim(claim, word, 4) or not isinstance(claim[2], tuple):
        return False
    return len(claim[2]) <= MOST_DAYS and all([is_readings(day) for day in claim[2]])


def is_few_places(cable, x):
    """Whether x, of any kind, is a tuple of at most two growing places."""
    return is_places(cable, x) and len(x) <= MOST_PLACES


def is_pairs(x):
    """Whether x, of any kind, is a tuple of tuples of two fractions."""
    if not isinstance(x, tuple):
        return False
    return all([is_tuple_of(pair, 2) and is_fraction(pair[0]) and is_fraction(pair[1]) for pair in x])


def shape_of(cable, day):
    """The shape of a day."""
    many = fewest_leaks(cable, day)
    if many is None:
        return None
    if many == 0:
        return (0,)
    if many == 1:
        return (1, place_at(cable, seen_at_ends(cable, day)[0]))
    return (2, curve_by(cable, day))


def is_on(curve, near, far):
    """Whether a pair with leaks at these drags lies on a curve."""
    west, beyond, share = curve
    one = minus(west, near)
    other = minus(far, beyond)
    return is_above_zero(one) and is_above_zero(other) and times(one, other) == share


def fits(cable, shape, places):
    """Whether some drags of some of these places make a day of this shape."""
    if shape is None:
        return False
    if shape[0] == 0:
        return True
    if shape[0] == 1:
        return shape[1] in places
    return len(places) == 2 and is_on(shape[1], drag_to(cable, places[0]), drag_to(cable, places[1]))


def fits_all(cable, shapes, places):
    """Whether these places fit days of all these shapes."""
    return all([fits(cable, shape, places) for shape in shapes])


def pairs_with(cable, curve, place):
    """The pairs of places on a curve, one of them this place."""
    drag = drag_to(cable, place)
    pairs = []
    if not below(last_near(cable, curve), drag):
        pairs.append((place, place_at(cable, far_by(curve, drag))))
    if not below(drag, first_far(curve)):
        pairs.append((place_at(cable, near_by(curve, drag)), place))
    return pairs


def pairs_on_both(cable, curve, other):
    """The growing pairs of places on two unlike curves."""
    west, beyond, share = curve
    west_more = minus(other[0], west)
    east_more = minus(beyond, other[1])
    single = plus(times(east_more, west_more), minus(share, other[2]))
    nears = [minus(west, left) for left in roots_of(east_more, single, times(share, west_more))]
    last = last_near(cable, curve)
    inside = [near for near in reversed(nears) if is_up_to(near, last)]
    return [(place_at(cable, near), place_at(cable, far_by(curve, near))) for near in inside]


def pairs_of_two(cable, shape, other):
    """The growing pairs of places that fit days of two unlike shapes that leak."""
    if shape[0] == 2 and other[0] == 2:
        return pairs_on_both(cable, shape[1], other[1])
    if shape[0] == 2:
        return pairs_with(cable, shape[1], other[1])
    if other[0] == 2:
        return pairs_with(cable, other[1], shape[1])
    return [(shape[1], other[1])] if below(shape[1], other[1]) else [(other[1], shape[1])]


def pairs_of_all(cable, shapes, one, other):
    """The growing pairs of places that fit days of all these shapes, two of them unlike and leaking."""
    return [pair for pair in pairs_of_two(cable, one, other) if fits_all(cable, shapes, pair)]


def do_clash(cable, shapes):
    """Whether no two places fit days of all these shapes."""
    if None in shapes:
        return True
    leaking = [shape for shape in shapes if shape[0] > 0]
    unlike = [shape for shape in leaking if shape != leaking[0]]
    return len(unlike) > 0 and not pairs_of_all(cable, shapes, leaking[0], unlike[0])


def makes_with(cable, day, places, drags):
    """Whether leaks at these places through drags, of any kind, None where one doesn't leak, make a day."""
    if not is_tuple_of(drags, len(places)):
        return False
    return makes(cable, tuple([(place, drag) for place, drag in zip(places, drags) if drag is not None]), day)


def fits_holds(claim, paper):
    """Whether the claim that places fit all days is taken, by their drags on each."""
    if not is_days_claim(claim, "fits"):
        return False
    word, cable, days, places = claim
    if not is_few_places(cable, places) or not is_tuple_of(paper, len(days)):
        return False
    return all([makes_with(cable, day, places, drags) for day, drags in zip(days, paper)])


def all_holds(claim, paper):
    """Whether the claim that just these pairs fit all days is taken, by the numbers of two unlike days."""
    if not is_days_claim(claim, "all") or not is_pairs(claim[3]) or not is_tuple_of(paper, 2):
        return False
    word, cable, days, pairs = claim
    if not all([is_whole(number) and 0 <= number < len(days) for number in paper]):
        return False
    shapes = [shape_of(cable, day) for day in days]
    if None in shapes:
        return False
    one, other = shapes[paper[0]], shapes[paper[1]]
    if one[0] == 0 or other[0] == 0 or one == other:
        return False
    return list(pairs) == pairs_of_all(cable, shapes, one, other)


def clash_holds(claim, paper):
    """Whether the claim of a clash, each day of which is needed, is taken, by places that fit all days but one."""
    if not is_days_claim(claim, "clash"):
        return False
    word, cable, days, numbers = claim
    if not is_numbers(numbers, 0, len(days) - 1) or not is_tuple_of(paper, len(numbers)):
        return False
    if not all([is_few_places(cable, places) for places in paper]):
        return False
    shapes = [shape_of(cable, days[number]) for number in numbers]
    if not do_clash(cable, shapes):
        return False
    return all([fits_all(cable, shapes[:at] + shapes[at + 1:], places) for at, places in enumerate(paper)])


def days_hold(claim, paper):
    """Whether a claim of several days is taken with its paper, both of any kind."""
    return fits_holds(claim, paper) or all_holds(claim, paper) or clash_holds(claim, paper)
