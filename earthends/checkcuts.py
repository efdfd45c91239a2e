"""The checker's claim of cuts, and what its other parts need of the pairs that make a day of two.

A pair is told by `near` and `far`, the drags from the west end to its leaks. Pairs lie on a curve
(WEST, BEYOND, SHARE): WEST less near and far less BEYOND are above 0, and multiplied are SHARE.
"""

from earthends.cables import drag_of, drag_to, is_place, splices_of
from earthends.checkleaks import fewest_leaks, is_day_claim, seen_at_ends
from earthends.fractions import ZERO, below, is_tuple_of, is_whole, minus, over, plus, times
from earthends.leaks import grow


def is_places(cable, x):
    """Whether x, of any kind, is a tuple of growing places of this cable."""
    return isinstance(x, tuple) and all([is_place(cable, place) for place in x]) and grow(x)


def is_numbers(x, first, last):
    """Whether x, of any kind, is a tuple of growing whole numbers from the first to the last one."""
    if not isinstance(x, tuple) or not all([is_whole(number) and first <= number <= last for number in x]):
        return False
    return all([ahead < behind for ahead, behind in zip(x, x[1:])])


def curve_by(cable, day):
    """The curve of a day of two."""
    west, east, earth = seen_at_ends(cable, day)
    beyond = minus(drag_of(cable), east)
    return (west, beyond, times(earth, minus(beyond, west)))


def far_by(curve, near):
    """The far of the pair with this near."""
    west, beyond, share = curve
    return plus(beyond, over(share, minus(west, near)))


def near_by(curve, far):
    """The near of the pair with this far."""
    west, beyond, share = curve
    return minus(west, over(share, minus(far, beyond)))


def first_far(curve):
    """The least far: that of the pair with a leak at the west end."""
    return far_by(curve, ZERO)


def last_near(cable, curve):
    """The greatest near: that of the pair with a leak at the east end."""
    return near_by(curve, drag_of(cable))


def splice_drags(cable):
    """The drags from the west end to each splice."""
    return [drag_to(cable, (steps, 1)) for steps in splices_of(cable)]


def ends_of_runs(cable, curve):
    """A near of each run of pairs whose leaks lie alike by the splices."""
    # A leak at a splice goes west: each run ends with a pair that has a leak there, or with the last pair of all.
    last = last_near(cable, curve)
    first = first_far(curve)
    drags = splice_drags(cable)
    by_west = [drag for drag in drags if not below(last, drag)]
    by_east = [near_by(curve, drag) for drag in drags if not below(drag, first)]
    return by_west + by_east + [last]


def splices_parting(drags, curve, near):
    """The numbers of the splices, at these drags, that part a pair."""
    far = far_by(curve, near)
    return [number for number, drag in enumerate(drags, start=1) if not below(drag, near) and below(drag, far)]


def all_parted(cable, curve, cuts):
    """Whether each pair that some splice parts is parted by one of these."""
    drags = splice_drags(cable)
    for near in ends_of_runs(cable, curve):
        parting = splices_parting(drags, curve, near)
        if parting and not any([splice in cuts for splice in parting]):
            return False
    return True


def each_needs_its_own(cable, curve, places):
    """Whether west leaks at these places are of pairs that some splice parts, and no splice parts two of them."""
    nears = [drag_to(cable, place) for place in places]
    last = last_near(cable, curve)
    if any([below(last, near) for near in nears]):
        return False
    drags = splice_drags(cable)
    rows = [splices_parting(drags, curve, near) for near in nears]
    together = [splice for row in rows for splice in row]
    return all([len(row) > 0 for row in rows]) and len(set(together)) == len(together)


def cuts_hold(claim, paper):
    """Whether the claim that so many cuts are needed is taken by its cover, both of any kind."""
    if not is_day_claim(claim, "cuts", 4) or not is_whole(claim[3]) or not is_tuple_of(paper, 2):
        return False
    word, cable, day, many = claim
    cuts, places = paper
    if not is_numbers(cuts, 1, len(cable[0]) - 1) or not is_places(cable, places):
        return False
    if len(cuts) != many or len(places) != many or fewest_leaks(cable, day) != 2:
        return False
    curve = curve_by(cable, day)
    return all_parted(cable, curve, cuts) and each_needs_its_own(cable, curve, places)
