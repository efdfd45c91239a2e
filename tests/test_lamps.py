import unittest
from fractions import Fraction

from earthends.days import day_of
from earthends.lamps import lamp_needed, lamp_plan, ways_of
from helpers import (
    CABLE, EVEN, NO_CABLES, NO_DAYS, NOT_OF_TWO, WRONG_DAYS, Curve, chance, day_with, refused, some_cable, some_leaks, some_two,
    splice_steps, two_at_splices,
)


def answer_of(way, splice):
    west, east = way
    return 0 if east < splice else 2 if west >= splice else 1


def parted_by(ways, splice):
    """The ways that the answers west, both and east of a cut leave."""
    return tuple(frozenset(way for way in ways if answer_of(way, splice) == answer) for answer in range(3))


def fewest(cable, ways, known):
    """How few cuts tell the way in the worst story: all plans gone through."""
    if len(ways) == 1:
        return 0
    if ways not in known:
        many = []
        for splice in range(1, len(cable[0])):
            answers = [answer for answer in parted_by(ways, splice) if answer]
            if ways not in answers:
                many.append(1 + max(fewest(cable, answer, known) for answer in answers))
        known[ways] = min(many)
    return known[ways]


class Ways(unittest.TestCase):
    def test_one_length(self):
        self.assertEqual(ways_of(EVEN[1], day_with(EVEN[1], 4, 4, 1)), ((0, 0),))
        self.assertEqual(ways_of(EVEN[1], day_with(EVEN[1], 4, 4, 16)), ((0, 0),))

    def test_two_lengths(self):
        for west, east, share, ways in (
                # The east leak's drag is from 8 and share / 5: at the splice, a little east of it, a little west of it.
                (5, 12, 10, ((0, 0), (0, 1))), (5, 12, 11, ((0, 1),)), (5, 12, 9, ((0, 0), (0, 1))),
                # The west leak's drag is up to 12 - share / 5: at the splice, a little west of it, a little east of it.
                (12, 5, 10, ((0, 1),)), (12, 5, 11, ((0, 1),)), (12, 5, 9, ((0, 1), (1, 1))),
                (5, 5, 1, ((0, 1),)), (5, 5, 25, ((0, 1),))):
            self.assertEqual(ways_of(EVEN[2], day_with(EVEN[2], west, east, share)), ways, (west, east, share))

    def test_three_lengths(self):
        # Both leaks go east, and both pass a splice: the east one at 20 where the west one is at 11 and a half.
        self.assertEqual(ways_of(EVEN[3], day_with(EVEN[3], 14, 14, 10)), ((0, 1), (1, 1), (1, 2)))
        # Where one passes its splice just as the other does: a leak at a splice counts to the length west of it.
        self.assertEqual(ways_of(EVEN[3], day_with(EVEN[3], 14, 14, 16)), ((0, 1), (1, 2)))

    def test_by_hand(self):
        rand = chance(71)
        for _ in range(120):
            if rand.random() < 0.2:
                cable = some_cable(rand)
                day = day_of(cable, some_leaks(rand, cable, rand.randint(2, 6)))
            else:
                cable, day = some_two(rand, 12 if rand.random() < 0.3 else 5)
            curve = Curve(cable, day)
            told = ways_of(cable, day)
            self.assertEqual(told, tuple(sorted({curve.way(x) for x in curve.samples()})))
            self.assertTrue(all(type(part) is int for way in told for part in way))

    def test_leaks_at_ends_and_splices(self):
        rand = chance(72)
        for _ in range(60):
            cable, places, day = two_at_splices(rand, 12)
            way = tuple(sum(steps < place for steps in splice_steps(cable)) for place in places)
            self.assertIn(way, ways_of(cable, day))
            curve = Curve(cable, day)
            self.assertEqual(ways_of(cable, day), tuple(sorted({curve.way(x) for x in curve.samples()})))


class Plans(unittest.TestCase):
    def check_plan(self, cable, plan, ways, most):
        """Each way is known at the end of the plan, by so many cuts at the most."""
        if len(ways) == 1:
            self.assertEqual(plan, ())
            return
        self.assertGreater(most, 0)
        self.assertIs(type(plan), tuple)
        splice, *answers = plan
        self.assertEqual(len(answers), 3)
        self.assertIs(type(splice), int)
        self.assertTrue(1 <= splice < len(cable[0]))
        for left, answer in zip(parted_by(ways, splice), answers):
            if left:
                self.check_plan(cable, answer, left, most - 1)
            else:
                self.assertIsNone(answer)

    def check(self, cable, day):
        ways = frozenset(ways_of(cable, day))
        needed = lamp_needed(cable, day)
        self.assertIs(type(needed), int)
        self.assertEqual(needed, fewest(cable, ways, {}), (cable, day))
        self.check_plan(cable, lamp_plan(cable, day), ways, needed)
        return needed

    def test_one_way(self):
        for cable, day in ((EVEN[1], day_with(EVEN[1], 4, 4, 1)), (EVEN[2], day_with(EVEN[2], 5, 5, 1)),
                           (EVEN[12], day_with(EVEN[12], 5, 5, 1))):
            self.assertEqual(lamp_needed(cable, day), 0)
            self.assertEqual(lamp_plan(cable, day), ())

    def test_ordinary(self):
        day = day_with(EVEN[2], 5, 12, 9)
        self.assertEqual((lamp_needed(EVEN[2], day), lamp_plan(EVEN[2], day)), (1, (1, (), (), None)))
        day = day_with(EVEN[2], 12, 5, 9)
        self.assertEqual((lamp_needed(EVEN[2], day), lamp_plan(EVEN[2], day)), (1, (1, None, (), ())))
        # (0, 1), (1, 1), (1, 2): no cut tells all three apart.
        self.assertEqual(self.check(EVEN[3], day_with(EVEN[3], 14, 14, 10)), 2)

    def test_no_plan_needs_fewer(self):
        rand = chance(73)
        seen = {}
        for _ in range(150):
            cable, day = some_two(rand, 12 if rand.random() < 0.5 else 5)
            needed = self.check(cable, day)
            seen[needed] = seen.get(needed, 0) + 1
        self.assertTrue({0, 1, 2, 3} <= set(seen), seen)

    def test_many_ways(self):
        # EARTH LACK as little as can be: the leaks go almost over the whole of WEST, and then of EAST.
        most = 0
        for west in range(1, 120, 7):
            for east in range(1, 120 - west, 7):
                for share in (Fraction(1, 100), 1, 50, 1000):
                    if share <= west * east:
                        most = max(most, self.check(EVEN[12], day_with(EVEN[12], west, east, Fraction(share))))
        self.assertGreater(most, 3)


class Refused(unittest.TestCase):
    def test_the_first_from_the_left(self):
        for function in (ways_of, lamp_needed, lamp_plan):
            for odd in NO_CABLES:
                for day in (NOT_OF_TWO[0], WRONG_DAYS[0], None, odd, ((1, 1), (1, 1), (1, 1))):
                    refused(self, "NoCable", function, odd, day)
            for odd in NO_DAYS + WRONG_DAYS:
                refused(self, "NoDay", function, CABLE, odd)
            for day in NOT_OF_TWO:
                refused(self, "NoPair", function, CABLE, day)


if __name__ == "__main__":
    unittest.main()
