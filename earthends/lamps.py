"""Cuts tried by a lamp alone, which tells of each part only whether it leaks.

Going east along the pairs of a day of two neither leak goes back west, so the ways (I, J) follow one another, and each
answer of a cut leaves some of them side by side: a range (FIRST, BEHIND) of their numbers.
"""

from earthends.pairs import curve_of
from earthends.runs import has_some, marks_of, way_run


def ways_of(cable, day):
    """The growing tuple of (I, J): the lengths of the west and the east leak of some pair that makes a day of two."""
    marks = marks_of(cable, curve_of(cable, day))
    numbers = list(range(len(cable[0])))
    return tuple([(west, east) for west in numbers for east in numbers if has_some(way_run(marks, west, east))])


def bounds_of(ways, splice):
    """How many ways have both leaks west of a splice, and how many have the west leak there."""
    return (len([way for way in ways if way[1] < splice]), len([way for way in ways if way[0] < splice]))


def between(first, number, behind):
    """The number, or the nearest one in a range."""
    return max(first, min(number, behind))


def answers_of(bounds, left):
    """The ranges that the answers west, both and east of a cut leave of a range."""
    first, behind = left
    low = between(first, bounds[0], behind)
    high = between(first, bounds[1], behind)
    return ((first, low), (low, high), (high, behind))


def is_empty(left):
    """Whether a range has no way."""
    return left[0] == left[1]


def worst_of(needed, answers):
    """The most cuts that any answer still needs."""
    return max([needed[answer] for answer in answers if not is_empty(answer)])


def best_cut(bounds, needed, left):
    """(CUTS, SPLICE): how few cuts tell the way of a range, two ways or more, and the first of them."""
    best = None
    for splice in bounds:
        answers = answers_of(bounds[splice], left)
        # A cut whose answer is known ahead tells nothing.
        if left not in answers:
            cuts = (1 + worst_of(needed, answers), splice)
            best = cuts if best is None else min(best, cuts)
    return best


def cuts_of(ways, bounds):
    """For each range of ways how few cuts tell the way, and for each with two ways or more the first of them."""
    needed = {(first, first + 1): 0 for first in range(len(ways))}
    splices = {}
    for many in range(2, len(ways) + 1):
        for first in range(len(ways) - many + 1):
            left = (first, first + many)
            needed[left], splices[left] = best_cut(bounds, needed, left)
    return (needed, splices)


def plan_of(bounds, splices, left):
    """The plan for a range of ways, None where it is empty."""
    if is_empty(left):
        return None
    if left not in splices:
        return ()
    splice = splices[left]
    west, both, east = [plan_of(bounds, splices, answer) for answer in answers_of(bounds[splice], left)]
    return (splice, west, both, east)


def hard_ranges(needed):
    """The growing (FIRST, LAST, CUTS) of all ranges that need CUTS, one at least, but fewer without either end."""
    rows = []
    for first, behind in needed:
        cuts = needed[(first, behind)]
        if cuts > 0 and needed[(first + 1, behind)] < cuts and needed[(first, behind - 1)] < cuts:
            rows.append((first, behind - 1, cuts))
    return tuple(sorted(rows))


def lamp_of(cable, day):
    """(CUTS, PLAN, RANGES): how few cuts tell the way of a day of two, a plan that needs no more, and why no fewer do.

    A way more in a range needs one cut more at most, so each range has a hard one within for each number of cuts up to
    its own, and each cut of a hard range leaves one that needs one cut fewer, or more.
    """
    ways = ways_of(cable, day)
    bounds = {splice: bounds_of(ways, splice) for splice in range(1, len(cable[0]))}
    needed, splices = cuts_of(ways, bounds)
    every = (0, len(ways))
    return (needed[every], plan_of(bounds, splices, every), hard_ranges(needed))


def lamp_needed(cable, day):
    """How few cuts tell the way of a day of two, in the worst story."""
    return lamp_of(cable, day)[0]


def lamp_plan(cable, day):
    """A plan that tells the way by no more cuts than are needed."""
    return lamp_of(cable, day)[1]
