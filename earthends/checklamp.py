"""The checker's claim of the cuts that are needed by a lamp alone."""

from earthends.checkcuts import curve_by, ends_of_runs, far_by, splice_drags
from earthends.checkleaks import fewest_leaks, is_day_claim
from earthends.fractions import below, is_tuple_of, is_whole


def length_at(drags, drag):
    """The number of the length, from 0, with a leak at this drag, by the drags to the splices."""
    return len([splice for splice in drags if below(splice, drag)])


def ways_by(cable, day):
    """The growing ways (I, J) of a day of two."""
    curve = curve_by(cable, day)
    drags = splice_drags(cable)
    pairs = [(near, far_by(curve, near)) for near in ends_of_runs(cable, curve)]
    return sorted({(length_at(drags, near), length_at(drags, far)) for near, far in pairs})


def answer_to(way, splice):
    """Where a way leaks by a cut: 0 in the west part alone, 1 in both, 2 in the east part alone."""
    if way[1] < splice:
        return 0
    return 2 if way[0] >= splice else 1


def plan_tells(plan, splices, ways, most):
    """Whether a plan, of any kind, tells which of these ways is so, by so many cuts at most."""
    if not ways:
        return plan is None
    if len(ways) == 1:
        return is_tuple_of(plan, 0)
    if most <= 0 or not is_tuple_of(plan, 4) or not is_whole(plan[0]) or plan[0] not in splices:
        return False
    for answer, part in enumerate(plan[1:]):
        left = [way for way in ways if answer_to(way, plan[0]) == answer]
        if not plan_tells(part, splices, left, most - 1):
            return False
    return True


def is_row(x, ways):
    """Whether x, of any kind, is (FIRST, LAST, NUMBER) with two at least of these ways."""
    if not is_tuple_of(x, 3) or not all([is_whole(part) for part in x]):
        return False
    return 0 <= x[0] < x[1] < len(ways) and x[2] >= 1


def leaves_a_row(row, table, answers):
    """Whether one of these answers, one for each way, leaves of a row all of a row with one cut fewer or more."""
    first, last, number = row
    # Both numbers of the ways grow, so an answer that leaves two of them leaves all between.
    return any([
        first <= low and high <= last and cuts >= number - 1 and answers[low] == answers[high]
        for low, high, cuts in table
    ])


def is_table(x, splices, ways):
    """Whether x, of any kind, is a growing tuple of rows, each with as many cuts as its ways need at least."""
    if not isinstance(x, tuple) or not all([is_row(row, ways) for row in x]):
        return False
    if not all([ahead < behind for ahead, behind in zip(x, x[1:])]):
        return False
    for splice in splices:
        answers = [answer_to(way, splice) for way in ways]
        if not all([row[2] == 1 or leaves_a_row(row, x, answers) for row in x]):
            return False
    return True


def lamp_holds(claim, paper):
    """Whether the claim that so many cuts are needed by a lamp is taken by its plan and table, both of any kind."""
    if not is_day_claim(claim, "lamp", 4) or not is_whole(claim[3]) or not is_tuple_of(paper, 2):
        return False
    word, cable, day, many = claim
    if fewest_leaks(cable, day) != 2:
        return False
    plan, table = paper
    ways = ways_by(cable, day)
    splices = list(range(1, len(cable[0])))
    if not plan_tells(plan, splices, ways, many) or not is_table(table, splices, ways):
        return False
    return many == 0 or any([row[2] == many for row in table])
