"""Tellings: which places fit all of several days, or which few of these clash."""

from earthends.cables import is_place, need_cable, place_at
from earthends.days import is_day, kind_of
from earthends.errors import NoDays, NoPlaces
from earthends.fractions import below, is_up_to, minus, plus, roots_of, times
from earthends.leaks import grow
from earthends.pairs import curve_of, east_of, east_span, far_of, last_near, pair_at, west_of, west_span

MOST_DAYS = 12
MOST_PLACES = 2
CLASH = ("clash",)


def need_days(days):
    """Refuse what is no tuple of at most twelve days."""
    if not isinstance(days, tuple) or len(days) > MOST_DAYS or not all([is_day(day) for day in days]):
        raise NoDays("not days")


def need_places(cable, places):
    """Refuse what is no tuple of at most two growing places of this cable."""
    if not isinstance(places, tuple) or len(places) > MOST_PLACES:
        raise NoPlaces("not so many places")
    if not all([is_place(cable, place) for place in places]) or not grow(places):
        raise NoPlaces("not growing places of the cable")


def pair_with(cable, day, places):
    """Both leaks at these places that make a day of two, None where none do."""
    if len(places) != 2 or not is_up_to(places[0], west_span(cable, day)[1]):
        return None
    pair = pair_at(cable, day, places[0])
    return pair if pair[1][0] == places[1] else None


def leaks_with(cable, day, places):
    """Leaks at some of these places that make a day, None where none do."""
    kind = kind_of(cable, day)
    if kind[0] == "sound":
        return ()
    if kind[0] == "one" and kind[1][0] in places:
        return (kind[1],)
    if kind[0] == "two":
        return pair_with(cable, day, places)
    return None


def drags_on(cable, day, places):
    """The drags of these places on a day, None for one that doesn't leak; None alone where they don't fit."""
    leaks = leaks_with(cable, day, places)
    if leaks is None:
        return None
    drags = {place: drag for place, drag in leaks}
    return tuple([drags.get(place) for place in places])


def drags_on_all(cable, days, places):
    """For each day the drags of these places on it, None for a day that they don't fit."""
    return tuple([drags_on(cable, day, places) for day in days])


def drags_by(cable, days, places):
    """For each day the drags of these places on it, None alone where they don't fit all days."""
    need_cable(cable)
    need_days(days)
    need_places(cable, places)
    drags = drags_on_all(cable, days, places)
    return None if None in drags else drags


def crossings(cable, day, other):
    """The growing pairs of places that make two unlike days of two."""
    curve = curve_of(cable, day)
    second = curve_of(cable, other)
    west_more = minus(second[1], curve[1])
    east_more = minus(second[2], curve[2])
    share = curve[4]
    single = plus(times(east_more, west_more), minus(share, second[4]))
    roots = roots_of(east_more, single, times(share, west_more))
    nears = [minus(curve[1], seen) for seen in roots[::-1]]
    # A root beyond the span of the west leak is that of no pair.
    nears = [near for near in nears if is_up_to(near, last_near(curve))]
    return [(place_at(cable, near), place_at(cable, far_of(curve, near))) for near in nears]


def pairs_through(cable, day, place):
    """The pairs of places that make a day of two, one of them this place: one at most, as both spans lie apart."""
    if is_up_to(place, west_span(cable, day)[1]):
        return [(place, east_of(cable, day, place))]
    if below(place, east_span(cable, day)[0]):
        return []
    return [(west_of(cable, day, place), place)]


def pairs_for(cable, places, twos):
    """The few growing pairs that alone may fit days of one at these places and these unlike days of two."""
    if len(places) > 1:
        one, other = places[0], places[1]
        return [(one, other)] if below(one, other) else [(other, one)]
    if places:
        return pairs_through(cable, twos[0], places[0])
    return crossings(cable, twos[0], twos[1])


def without_repeats(xs):
    """Each of these once, where it stands first."""
    return [x for at, x in enumerate(xs) if x not in xs[:at]]


def told_of(cable, days):
    """What is told of days that were asked for already."""
    kinds = [kind_of(cable, day) for day in days]
    if any([kind[0] == "wrong" for kind in kinds]):
        return CLASH
    places = without_repeats([kind[1][0] for kind in kinds if kind[0] == "one"])
    twos = without_repeats([day for day, kind in zip(days, kinds) if kind[0] == "two"])
    if not places and not twos:
        return ("sound",)
    if len(places) == 1 and not twos:
        return ("one", places[0])
    if not places and len(twos) == 1:
        return ("curve", days.index(twos[0]))
    pairs = [pair for pair in pairs_for(cable, places, twos) if None not in drags_on_all(cable, days, pair)]
    return ("pairs", tuple(pairs)) if pairs else CLASH


def telling(cable, days):
    """What is told of days: sound, one with its place, curve with its number, pairs with them, or clash."""
    need_cable(cable)
    need_days(days)
    return told_of(cable, days)


def clash_of(cable, days):
    """The growing numbers of a least clash, () where nothing clashes."""
    if telling(cable, days) != CLASH:
        return ()
    left = list(range(len(days)))
    for number in reversed(range(len(days))):
        fewer = [other for other in left if other != number]
        if told_of(cable, tuple([days[other] for other in fewer])) == CLASH:
            left = fewer
    return tuple(left)
