import unittest
from fractions import Fraction
from itertools import combinations

from earthends.checkcuts import cuts_hold
from earthends.cutting import cover_of
from earthends.days import day_of
from helpers import (
    CABLE, EVEN, NOT_OF_TWO, WRONG_DAYS, Curve, chance, check_kinds, day_by, day_with, frac, num, place_of, some_cable,
    some_leaks, some_two, splice_steps, two_at_splices, west_drag,
)

LITTLE = Fraction(1, 10 ** 30)
# WEST 14, EAST 14, 10 multiplied: the first splice parts pairs with west leaks up to 10, the second one those behind 11.5.
THREE = EVEN[3]
TWO_CUTS = day_with(THREE, 14, 14, 10)
ONE_CUT = day_with(EVEN[2], 14, 4, 10)


def parting(cable, curve, x):
    """The splices that part the pair with a west leak at this drag."""
    west, east = curve.places(x)
    return {number for number, steps in enumerate(splice_steps(cable), start=1) if west <= steps < east}


def is_right(cable, day, many, cuts, places):
    """What the claim says, asked of one pair of each run of pairs that lie alike."""
    curve = Curve(cable, day)
    if (len(cuts), len(places)) != (many, many):
        return False
    for x in curve.samples():
        parts = parting(cable, curve, x)
        if parts and not parts & set(cuts):
            return False
    rows = []
    for place in places:
        x = west_drag(cable, num(place))
        if x > curve.greatest or not parting(cable, curve, x):
            return False
        rows.append(parting(cable, curve, x))
    return all(not one & other for one, other in combinations(rows, 2))


class Cuts(unittest.TestCase):
    holds = staticmethod(cuts_hold)

    def taken(self, cable, day, many, paper):
        self.assertIs(self.holds(("cuts", cable, day, many), paper), True, (cable, day, many, paper))

    def no(self, cable, day, many, paper):
        self.assertIs(self.holds(("cuts", cable, day, many), paper), False, (cable, day, many, paper))

    def test_two_cuts(self):
        self.taken(THREE, TWO_CUTS, 2, ((1, 2), ((10, 1), (12, 1))))
        self.taken(THREE, TWO_CUTS, 2, ((1, 2), ((0, 1), frac(Fraction(23, 2) + LITTLE))))
        self.taken(THREE, TWO_CUTS, 2, ((1, 2), ((0, 1), frac(14 - Fraction(10, 14)))))
        for cuts in ((1,), (2,), (), (2, 1), (1, 1), (2, 2), (0, 1), (2, 3), (1, 2, 3), (0, 1, 2), (1, 2, 2), (1, 3), (-1, 2)):
            self.no(THREE, TWO_CUTS, 2, (cuts, ((10, 1), (12, 1))))
            self.no(THREE, TWO_CUTS, len(cuts), (cuts, ((10, 1), (12, 1))))
            self.no(THREE, TWO_CUTS, len(cuts), (cuts, ((10, 1), (12, 1))[:len(cuts)]))

    def test_places(self):
        for places in (
                # Turned about, twice one, one more, one fewer.
                ((12, 1), (10, 1)), ((10, 1), (10, 1)), ((10, 1), (12, 1), (13, 1)), ((10, 1),), (),
                # Two that one splice parts.
                ((9, 1), (10, 1)), ((12, 1), (13, 1)),
                # One that no splice parts: both leaks lie in the middle length.
                (frac(10 + LITTLE), (12, 1)), ((10, 1), (23, 2)), ((10, 1), (11, 1)),
                # Beyond the span of the west leak, beyond the cable.
                ((10, 1), frac(14 - Fraction(10, 14) + LITTLE)), ((10, 1), (14, 1)), ((10, 1), (30, 1)), ((10, 1), (31, 1)),
                ((-1, 1), (12, 1)), ((10, 1), (20, 1))):
            self.no(THREE, TWO_CUTS, 2, ((1, 2), places))
            self.no(THREE, TWO_CUTS, len(places), ((1, 2), places))

    def test_many(self):
        paper = ((1, 2), ((10, 1), (12, 1)))
        for many in (0, 1, 3, -2, 10 ** 40, True, False, None, "2", (2,), (2, 1), [2]):
            self.no(THREE, TWO_CUTS, many, paper)
        self.no(THREE, TWO_CUTS, 1, ((1,), ((10, 1),)))
        self.no(THREE, TWO_CUTS, 0, ((), ()))
        self.no(THREE, TWO_CUTS, -1, ((), ()))

    def test_one_cut(self):
        self.taken(EVEN[2], ONE_CUT, 1, ((1,), ((0, 1),)))
        self.taken(EVEN[2], ONE_CUT, 1, ((1,), ((10, 1),)))
        for places in ((frac(10 + LITTLE),), ((11, 1),), ()):
            self.no(EVEN[2], ONE_CUT, 1, ((1,), places))
        for cuts in ((0,), (2,), (), (1, 2), (True,), (-1,), ("1",), (None,), ((1, 1),)):
            self.no(EVEN[2], ONE_CUT, 1, (cuts, ((0, 1),)))
        self.no(EVEN[2], ONE_CUT, True, ((1,), ((0, 1),)))
        self.no(EVEN[2], ONE_CUT, 0, ((), ()))
        self.no(EVEN[2], ONE_CUT, 2, ((1,), ((0, 1),)))

    def test_no_splice(self):
        day = day_with(EVEN[1], 4, 4, 1)
        self.taken(EVEN[1], day, 0, ((), ()))
        for many in (1, -1, False, None, "", ()):
            self.no(EVEN[1], day, many, ((), ()))
        for paper in (((1,), ((0, 1),)), ((0,), ((0, 1),)), ((), ((0, 1),)), ((1,), ()), None, (), ((),), ((), (), ()), ([], ()),
                      ((), []), ((), None), (None, ())):
            for many in (0, 1):
                self.no(EVEN[1], day, many, paper)

    def test_days_that_are_not_of_two(self):
        for day in NOT_OF_TWO + WRONG_DAYS:
            for many, paper in ((0, ((), ())), (1, ((1,), ((0, 1),))), (1, ((2,), ((1, 1),))), (2, ((1, 2), ((10, 1), (12, 1))))):
                self.no(CABLE, day, many, paper)
        one = (((10, (1, 1)),), (0, 1))
        for day in ((None, None, (10, 1)), (None, None, (9, 1)), day_by(one, 4, 6, 1), day_by(one, 4, 4, 9)):
            self.no(one, day, 0, ((), ()))

    def test_all_that_may_be_claimed(self):
        rand = chance(111)
        right = 0
        for _ in range(40):
            cable, day = some_two(rand, 5)
            curve = Curve(cable, day)
            splices = range(1, len(cable[0]))
            places = [frac(place_of(cable, x)) for x in curve.samples()]
            for many in range(4):
                for cuts in combinations(splices, many):
                    chosen = [tuple(rand.sample(places, min(many, len(places)))) for _ in range(4)]
                    chosen += [tuple(row) for row in list(combinations(places, many))[:12]]
                    for row in chosen:
                        row = tuple(sorted(row, key=num))
                        told = self.holds(("cuts", cable, day, many), (cuts, row))
                        self.assertIs(told, is_right(cable, day, many, cuts, row), (cable, day, cuts, row))
                        right += told
        self.assertGreater(right, 40)

    def test_the_house(self):
        rand = chance(112)
        for turn in range(60):
            if turn % 3 == 0:
                cable, places, day = two_at_splices(rand, 12)
            elif turn % 3 == 1:
                cable, day = some_two(rand, 12)
            else:
                cable = some_cable(rand)
                day = day_of(cable, some_leaks(rand, cable, rand.randint(2, 6)))
            cuts, places = cover_of(cable, day)
            self.taken(cable, day, len(cuts), (cuts, places))
            for many in range(4):
                if many != len(cuts):
                    self.no(cable, day, many, (cuts, places))

    def test_kinds(self):
        claim, paper = ("cuts", THREE, TWO_CUTS, 2), ((1, 2), ((10, 1), (12, 1)))
        check_kinds(self, self.holds, claim, paper)
        check_kinds(self, self.holds, ("cuts", EVEN[2], ONE_CUT, 1), ((1,), ((0, 1),)))
        check_kinds(self, self.holds, ("cuts", EVEN[1], day_with(EVEN[1], 4, 4, 1), 0), ((), ()))
        for other in (paper[:1], paper + ((),), paper[::-1], paper[0], None):
            self.assertIs(self.holds(claim, other), False)
        for word in ("Cuts", "cut", "lamp", "cover"):
            self.assertIs(self.holds((word,) + claim[1:], paper), False)


if __name__ == "__main__":
    unittest.main()
