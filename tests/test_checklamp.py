import unittest
from fractions import Fraction
from functools import cache

from earthends.checklamp import lamp_holds
from earthends.days import day_of
from earthends.lamps import lamp_needed, lamp_plan, ways_of
from helpers import (
    CABLE, EVEN, NOT_OF_TWO, WRONG_DAYS, Curve, chance, check_kinds, day_by, day_with, paths_of, put_at, replaced, some_cable,
    some_leaks, some_two, two_at_splices,
)
from test_lamps import answer_of, fewest

# The ways are (0, 1), (1, 1), (1, 2): no cut tells all three apart.
THREE = EVEN[3]
DAY = day_with(THREE, 14, 14, 10)
PLAN = (1, None, (), (2, (), (), None))
TABLE = ((0, 1, 1), (0, 2, 2), (1, 2, 1))
# Twelve lengths with many ways.
MANY_WAYS = day_with(EVEN[12], 55, 57, Fraction(5))


def full_table(cable, ways):
    """All rows of two ways at least, each with as many cuts as they need."""
    known = {}
    return tuple((first, last, fewest(cable, frozenset(ways[first:last + 1]), known))
                 for first in range(len(ways)) for last in range(first + 1, len(ways)))


def plan_is_right(cable, plan, ways, most):
    if len(ways) < 2:
        return plan == () if ways else plan is None
    if most < 1 or type(plan) is not tuple or len(plan) != 4 or plan[0] not in range(1, len(cable[0])):
        return False
    left = [[way for way in ways if answer_of(way, plan[0]) == answer] for answer in range(3)]
    return all(plan_is_right(cable, part, some, most - 1) for part, some in zip(plan[1:], left))


def row_is_right(cable, ways, row, table):
    """What [19] says of a row, by the ways themselves."""
    first, last, number = row
    if not (0 <= first < last < len(ways) and number >= 1):
        return False
    if number == 1:
        return True
    resting = [set(ways[low:high + 1]) for low, high, cuts in table if cuts >= number - 1]
    for splice in range(1, len(cable[0])):
        left = [{way for way in ways[first:last + 1] if answer_of(way, splice) == answer} for answer in range(3)]
        if not any(some <= part for some in resting for part in left):
            return False
    return True


@cache
def ways_by_hand(cable, day):
    curve = Curve(cable, day)
    return sorted({curve.way(x) for x in curve.samples()})


def is_right(cable, day, many, plan, table):
    ways = ways_by_hand(cable, day)
    grows = all(one < other for one, other in zip(table, table[1:]))
    return (plan_is_right(cable, plan, ways, many) and grows and all(row_is_right(cable, ways, row, table) for row in table)
            and (many == 0 or many in [row[2] for row in table]))


class Lamp(unittest.TestCase):
    holds = staticmethod(lamp_holds)

    def asked(self, cable, day, many, plan, table):
        """Whether the claim is taken, which must be so just where it is right."""
        told = self.holds(("lamp", cable, day, many), (plan, table))
        self.assertIs(told, is_right(cable, day, many, plan, table), (cable, day, many, plan, table))
        return told

    def no(self, cable, day, many, paper):
        self.assertIs(self.holds(("lamp", cable, day, many), paper), False, (cable, day, many, paper))

    def test_many(self):
        self.assertTrue(self.asked(THREE, DAY, 2, PLAN, TABLE))
        for many in (0, 1, 3, 4, -2, 10 ** 40):
            self.assertFalse(self.asked(THREE, DAY, many, PLAN, TABLE))
        for many in (True, None, "2", (2,), [2], (2, 1), False):
            self.no(THREE, DAY, many, (PLAN, TABLE))

    def test_plans(self):
        for plan in ((2, (1, None, (), ()), (), None), (1, None, (), (2, (), (), None))):
            self.assertTrue(self.asked(THREE, DAY, 2, plan, TABLE))
        for plan in (
                # Turned about; None, () and more where ways are left; plans where none or one is left.
                (1, (2, (), (), None), (), None), (1, (), None, (2, (), (), None)), (1, None, (), (2, None, (), ())),
                (1, None, (), None), (1, None, None, (2, (), (), None)), (1, None, (), ()), (), None,
                (1, (), (), (2, (), (), None)), (1, None, (), (2, (), (), ())), (1, None, (), (2, (), (1, None, (), ()), None)),
                (1, None, (2, None, (), None), (2, (), (), None)),
                # A splice that is none, one that doesn't part what is left.
                (0, None, (), (2, (), (), None)), (3, (), (), ()), (1, None, (), (3, (), (), None)), (-1, None, (), ()),
                (1, None, (), (1, None, None, (2, (), (), None))), (1, None, (), (0, (), (), None)),
                # Parts too many and too few.
                (1, None, ()), (1, None, (), (2, (), (), None), None), (1,), (1, None, (), (2, (), ()))):
            self.assertFalse(self.asked(THREE, DAY, 2, plan, TABLE))

    def test_a_cut_that_tells_nothing(self):
        # Where a plan has a cut to spare one may be wasted.
        ways = ways_of(EVEN[12], MANY_WAYS)
        table, needed, plan = full_table(EVEN[12], ways), lamp_needed(EVEN[12], MANY_WAYS), lamp_plan(EVEN[12], MANY_WAYS)
        wasted = 0
        for path, part in paths_of(plan):
            if part == () and len(path) < needed:
                # Where one way is left the plan is (): no cut more.
                self.assertFalse(self.asked(EVEN[12], MANY_WAYS, needed, put_at(plan, path, (1, None, (), None)), table))
            if type(part) is tuple and len(part) == 4:
                for splice in range(-1, 14):
                    for at in range(1, 4):
                        longer = replaced((splice, None, None, None), at, part)
                        wasted += self.asked(EVEN[12], MANY_WAYS, needed, put_at(plan, path, longer), table)
        self.assertGreater(wasted, 0)

    def test_tables(self):
        for table in (
                # Without the number, without what it rests on, not growing, twice.
                ((0, 1, 1), (1, 2, 1)), ((0, 1, 1), (0, 2, 2)), ((0, 2, 2), (1, 2, 1)), ((0, 2, 2),), (), TABLE[::-1],
                ((0, 2, 2), (0, 1, 1), (1, 2, 1)), TABLE[:1] + TABLE, TABLE + TABLE[2:],
                # Not two ways, beyond the ways, numbers that are none.
                TABLE + ((2, 2, 1),), TABLE + ((2, 3, 1),), ((-1, 1, 1),) + TABLE, TABLE + ((2, 1, 1),), ((0, 0, 1),) + TABLE,
                ((0, 1, 0),) + TABLE, ((0, 1, -1),) + TABLE, ((0, 2, 1), (0, 2, 3)), TABLE + ((1, 10 ** 40, 1),),
                # More than the ways need.
                ((0, 1, 1), (0, 2, 3), (1, 2, 1)), ((0, 1, 2), (0, 2, 3), (1, 2, 2)), ((0, 1, 1), (0, 1, 2), (0, 2, 2), (1, 2, 1)),
                ((0, 1, 1), (0, 2, 2), (1, 2, 1), (1, 2, 2))):
            self.assertFalse(self.asked(THREE, DAY, 2, PLAN, table), table)
        self.assertTrue(self.asked(THREE, DAY, 2, PLAN, ((0, 1, 1), (0, 2, 1), (0, 2, 2), (1, 2, 1))))
        for table in (None, list(TABLE), ([0, 1, 1],) + TABLE[1:], ((0, 1),) + TABLE[1:], ((0, 1, 1, 1),) + TABLE[1:], (None,),
                      ((False, 1, 1),) + TABLE[1:], ((0, True, 1),) + TABLE[1:], ((0, 1, True),) + TABLE[1:], {}, "", 0, (0, 1, 1)):
            self.no(THREE, DAY, 2, (PLAN, table))

    def test_no_cut_is_needed(self):
        for cable, day in ((EVEN[1], day_with(EVEN[1], 4, 4, 1)), (EVEN[2], day_with(EVEN[2], 5, 5, 1)),
                           (EVEN[12], day_with(EVEN[12], 5, 5, 1))):
            self.assertTrue(self.asked(cable, day, 0, (), ()))
            for many, plan, table in ((0, None, ()), (0, (1, (), (), None), ()), (0, (), ((0, 1, 1),)), (1, (), ((0, 1, 1),)),
                                      (1, (), ()), (1, (1, None, (), None), ()), (0, (), ((0, 0, 0),)), (-1, (), ())):
                self.assertFalse(self.asked(cable, day, many, plan, table))
            for many in (False, None, (), "0"):
                self.no(cable, day, many, ((), ()))
            for paper in (None, (), ((),), ((), (), ()), ((), None), (None, None), ([], ()), ((), [])):
                self.no(cable, day, 0, paper)

    def test_one_cut(self):
        day = day_with(EVEN[2], 5, 12, 9)
        self.assertTrue(self.asked(EVEN[2], day, 1, (1, (), (), None), ((0, 1, 1),)))
        for plan in ((1, None, (), ()), (1, (), None, ()), (1, (), (), ()), (2, (), (), None), ()):
            self.assertFalse(self.asked(EVEN[2], day, 1, plan, ((0, 1, 1),)))
        for many, table in ((1, ()), (2, ((0, 1, 2),)), (2, ((0, 1, 1), (0, 1, 2))), (0, ()), (0, ((0, 1, 1),)), (1, ((0, 2, 1),))):
            self.assertFalse(self.asked(EVEN[2], day, many, (1, (), (), None), table))
        self.no(EVEN[2], day, True, ((1, (), (), None), ((0, 1, 1),)))

    def test_days_that_are_not_of_two(self):
        for day in NOT_OF_TWO + WRONG_DAYS:
            for many, paper in ((0, ((), ())), (1, ((1, (), (), None), ((0, 1, 1),))), (2, (PLAN, TABLE))):
                self.no(CABLE, day, many, paper)
        one = (((10, (1, 1)),), (0, 1))
        for day in ((None, None, (10, 1)), (None, None, (9, 1)), day_by(one, 4, 6, 1), day_by(one, 4, 4, 9)):
            self.no(one, day, 0, ((), ()))

    def test_needed_and_no_other(self):
        rand = chance(121)
        seen = set()
        for turn in range(32):
            if turn % 4 == 0:
                cable, places, day = two_at_splices(rand, 12)
            elif turn % 4 == 1:
                cable = some_cable(rand)
                day = day_of(cable, some_leaks(rand, cable, rand.randint(2, 6)))
            else:
                cable, day = some_two(rand, 12 if turn % 4 == 2 else 5)
            ways = ways_of(cable, day)
            needed, plan, table = lamp_needed(cable, day), lamp_plan(cable, day), full_table(cable, ways)
            seen.add(needed)
            self.assertTrue(self.asked(cable, day, needed, plan, table))
            for many in range(8):
                if many != needed:
                    self.assertFalse(self.asked(cable, day, many, plan, table))
            for _ in range(10):
                other = list(table)
                for _ in range(rand.randint(1, 2)):
                    if other:
                        at = rand.randrange(len(other))
                        other[at:at + 1] = rand.choice(([], [replaced(other[at], rand.randrange(3), rand.randint(0, 4))]))
                other = tuple(rand.choice((sorted(set(other)), other)))
                self.asked(cable, day, needed, plan, other)
            for path, part in paths_of(plan):
                if type(part) is int:
                    for splice in (part - 1, part + 1):
                        self.asked(cable, day, needed, put_at(plan, path, splice), table)
                elif path:
                    for other in (None, (), plan):
                        self.asked(cable, day, needed, put_at(plan, path, other), table)
        self.assertTrue({0, 1, 2, 3} <= seen, seen)

    def test_many_ways(self):
        ways = ways_of(EVEN[12], MANY_WAYS)
        self.assertGreater(len(ways), 10)
        needed, table = lamp_needed(EVEN[12], MANY_WAYS), full_table(EVEN[12], ways)
        self.assertTrue(self.asked(EVEN[12], MANY_WAYS, needed, lamp_plan(EVEN[12], MANY_WAYS), table))
        # Each row with one cut more is more than its ways need.
        for at, row in enumerate(table):
            other = replaced(table, at, (row[0], row[1], row[2] + 1))
            self.assertFalse(self.asked(EVEN[12], MANY_WAYS, needed, lamp_plan(EVEN[12], MANY_WAYS), other))

    def test_kinds(self):
        claim, paper = ("lamp", THREE, DAY, 2), (PLAN, TABLE)
        check_kinds(self, self.holds, claim, paper)
        check_kinds(self, self.holds, ("lamp", EVEN[2], day_with(EVEN[2], 5, 12, 9), 1), ((1, (), (), None), ((0, 1, 1),)))
        check_kinds(self, self.holds, ("lamp", EVEN[1], day_with(EVEN[1], 4, 4, 1), 0), ((), ()))
        for other in (paper[:1], paper + ((),), paper[::-1], PLAN, TABLE, None):
            self.assertIs(self.holds(claim, other), False)
        for word in ("Lamp", "lamps", "cuts", "plan"):
            self.assertIs(self.holds((word,) + claim[1:], paper), False)


if __name__ == "__main__":
    unittest.main()
