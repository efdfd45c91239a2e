"""The house's papers: for each question a claim that is true, told with its paper."""

from earthends.cutting import cover_of
from earthends.days import kind_of
from earthends.fractions import ZERO
from earthends.lamps import lamp_of
from earthends.pairs import pair_at
from earthends.tellings import clash_of, drags_by, telling


def first_pair(cable, day):
    """Both leaks of the pair of a day of two that has a leak at the west end."""
    return pair_at(cable, day, ZERO)


def paper_day(cable, day):
    """The claim of a day by its kind, a pair for two, with its paper."""
    kind = kind_of(cable, day)
    if kind[0] == "wrong":
        return (("wrong", cable, day), kind[1])
    if kind[0] == "sound":
        return (("sound", cable, day), None)
    if kind[0] == "one":
        return (("one", cable, day, kind[1]), None)
    west, east = first_pair(cable, day)
    return (("pair", cable, day, (west[0], east[0])), (west[1], east[1]))


def paper_cuts(cable, day):
    """The claim of how many cuts cover a day of two, with the cover."""
    cuts, places = cover_of(cable, day)
    return (("cuts", cable, day, len(cuts)), (cuts, places))


def paper_lamp(cable, day):
    """The claim of how many cuts a lamp needs on a day of two, with a plan and why no fewer do."""
    cuts, plan, ranges = lamp_of(cable, day)
    return (("lamp", cable, day, cuts), (plan, ranges))


def places_told(cable, days, told):
    """Places that fit all days, by their telling, which is no clash."""
    if told[0] == "sound":
        return ()
    if told[0] == "one":
        return (told[1],)
    if told[0] == "pairs":
        return told[1][0]
    return tuple([place for place, drag in first_pair(cable, days[told[1]])])


def places_without(cable, days, numbers, left_out):
    """Places that fit the days of a least clash but for one of them."""
    others = tuple([days[number] for number in numbers if number != left_out])
    return places_told(cable, others, telling(cable, others))


def unlike_numbers(cable, days):
    """The numbers of two unlike days that leak, not both of one at one place, of days that pairs alone fit."""
    told = []
    for number, day in enumerate(days):
        kind = kind_of(cable, day)
        if kind[0] != "sound":
            told.append((number, kind[1][0] if kind[0] == "one" else day))
    first, first_told = told[0]
    return (first, min([number for number, other in told if other != first_told]))


def paper_days(cable, days):
    """The claim of days by their telling, with its paper."""
    told = telling(cable, days)
    if told[0] == "clash":
        numbers = clash_of(cable, days)
        paper = tuple([places_without(cable, days, numbers, number) for number in numbers])
        return (("clash", cable, days, numbers), paper)
    if told[0] == "pairs":
        return (("all", cable, days, told[1]), unlike_numbers(cable, days))
    places = places_told(cable, days, told)
    return (("fits", cable, days, places), drags_by(cable, days, places))
