"""Cables cut at a splice, and the few cuts that part the pairs of a day of two."""

from earthends.cables import need_cable, place_at, steps_ahead
from earthends.errors import NoSplice
from earthends.fractions import below, is_whole
from earthends.leaks import moved, need_leaks
from earthends.pairs import curve_of
from earthends.runs import common_run, has_pair, has_some, later, marks_of, parted_run, piece_run


def need_splice(cable, splice):
    """Refuse what is no number of a splice of this cable."""
    if not is_whole(splice) or not 1 <= splice < len(cable[0]):
        raise NoSplice("not a splice of the cable")


def parts(cable, splice):
    """The west and the east part of a cable cut at a splice."""
    need_cable(cable)
    need_splice(cable, splice)
    lengths, back = cable
    return ((lengths[:splice], back), (lengths[splice:], back))


def leaks_parted(cable, leaks, splice):
    """The leaks of the west and of the east part, by places of the parts."""
    need_cable(cable)
    need_leaks(cable, leaks)
    need_splice(cable, splice)
    steps = steps_ahead(cable, splice)
    west = [leak for leak in leaks if not below((steps, 1), leak[0])]
    return (tuple(west), moved(leaks[len(west):], -steps))


def splices_within(piece):
    """The splices of a cable between the lengths of a piece."""
    return list(range(piece[0] + 1, piece[1]))


def last_parted(marks, piece, run):
    """The eastmost pair of a run that some splice of the piece parts, None without one."""
    last = None
    for splice in splices_within(piece):
        here = common_run(run, parted_run(marks, splice))
        if has_some(here):
            last = later(last, here[1])
    return last


def cover_within(marks, piece):
    """The cover of the pairs with both leaks in a piece: as many splices, and drags to west leaks, growing."""
    cuts = []
    nears = []
    first, high = piece_run(marks, piece)
    near = last_parted(marks, piece, (first, high))
    while near is not None:
        # The westmost one that parts this pair parts all that any other of them parts farther west.
        cut = min([splice for splice in splices_within(piece) if has_pair(parted_run(marks, splice), near)])
        cuts.append(cut)
        nears.append(near)
        high = parted_run(marks, cut)[0]
        near = last_parted(marks, piece, (first, high))
    return (tuple(cuts[::-1]), tuple(nears[::-1]))


def cover_of(cable, day):
    """Splices that part all pairs of a day of two that any splice parts, and as many places that need them all."""
    marks = marks_of(cable, curve_of(cable, day))
    cuts, nears = cover_within(marks, (0, len(cable[0])))
    return (cuts, tuple([place_at(cable, near) for near in nears]))


def cuts_needed(cable, day):
    """How many cuts part each pair of a day of two that any splice parts, in the worst story."""
    cuts, places = cover_of(cable, day)
    # The least T with 2^T more than a number is how many figures of 0 and 1 it has.
    return len(cuts).bit_length()
