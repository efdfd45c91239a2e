"""Runs of the pairs that make a day of two, told by the lengths in which their leaks lie.

Pairs go east by growing drags from the west end to their west leaks. A mark is such a drag, or None, which is ahead of
all of them; a run (LOW, HIGH) has all pairs behind LOW and up to HIGH. A leak at a splice counts to the length west of
it, so each run that lengths give ends with a pair of its own but begins behind one that it hasn't.
"""

from earthends.cables import drag_of_length
from earthends.fractions import ZERO, below, lesser, plus
from earthends.pairs import first_far, last_near, near_of


def is_ahead(one, other):
    """Whether a mark is ahead of another one."""
    if other is None:
        return False
    return one is None or below(one, other)


def sooner(one, other):
    """The mark of both that is ahead."""
    return one if is_ahead(one, other) else other


def later(one, other):
    """The mark of both that is behind."""
    return other if is_ahead(one, other) else one


def has_some(run):
    """Whether a run has a pair."""
    return is_ahead(run[0], run[1])


def has_pair(run, near):
    """Whether a run has the pair of this mark."""
    return is_ahead(run[0], near) and not is_ahead(run[1], near)


def common_run(run, other):
    """The pairs of both runs."""
    return (later(run[0], other[0]), sooner(run[1], other[1]))


def marks_of(cable, curve):
    """By numbers of lengths, from 0: the last pairs whose west, and whose east leaks lie in so many westmost ones."""
    last = last_near(curve)
    first = first_far(curve)
    wests = [None]
    easts = [None]
    drag = ZERO
    for length in cable[0]:
        drag = plus(drag, drag_of_length(length))
        wests.append(lesser(drag, last))
        easts.append(None if below(drag, first) else near_of(curve, drag))
    return (tuple(wests), tuple(easts))


def parted_run(marks, splice):
    """The pairs that a splice parts."""
    wests, easts = marks
    return (easts[splice], wests[splice])


def piece_run(marks, piece):
    """The pairs that have both leaks in a piece (FIRST, BEHIND): its first length and the one behind its last."""
    wests, easts = marks
    first, behind = piece
    return (wests[first], easts[behind])


def way_run(marks, west, east):
    """The pairs that have their west leak in one length, their east leak in another or the same one."""
    wests, easts = marks
    return common_run((wests[west], wests[west + 1]), (easts[east], easts[east + 1]))
