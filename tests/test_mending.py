import unittest
from fractions import Fraction

from earthends.cables import drag_of, is_cable, splices_of, steps_of
from earthends.cutting import leaks_parted, parts
from earthends.days import day_of
from earthends.leaks import is_leaks
from earthends.measures import measure
from earthends.mending import added, exchanged, leaks_added, leaks_turned, turned
from earthends.stretches import joined, stretch_of
from helpers import (
    CABLE, NO_CABLES, NO_LENGTHS, NO_NUMBERS, ODD, all_steps, chance, frac, num, refused, replaced, small_cable, some_cable,
    some_leaks,
)

LENGTH = (7, (5, 3))
LEAKS = (((0, 1), (1, 1)), ((10, 1), (2, 1)), ((21, 2), (3, 1)), ((35, 1), (5, 1)))
NO_LEAKS = ODD + ([], list(LEAKS), LEAKS[::-1], (((36, 1), (1, 1)),), (((1, 1), (0, 1)),), LEAKS[0])
EVEN = tuple((((10, (1, 1)),) * many, (many, 1)) for many in range(13))


class Exchanged(unittest.TestCase):
    def test_ordinary(self):
        lengths, back = CABLE
        self.assertEqual(exchanged(CABLE, 0, LENGTH), ((LENGTH,) + lengths[1:], back))
        self.assertEqual(exchanged(CABLE, 1, LENGTH), ((lengths[0], LENGTH, lengths[2]), back))
        self.assertEqual(exchanged(CABLE, 2, LENGTH), (lengths[:2] + (LENGTH,), back))

    def test_each_number(self):
        rand = chance(91)
        for many in range(1, 13):
            cable = small_cable(rand, many)
            for number in range(many):
                told = exchanged(cable, number, LENGTH)
                self.assertIs(is_cable(told), True)
                self.assertEqual(told, (replaced(cable[0], number, LENGTH), cable[1]))
                self.assertEqual(exchanged(told, number, cable[0][number]), cable)
                self.assertEqual(exchanged(cable, number, cable[0][number]), cable)

    def test_lengths_at_their_bounds(self):
        for length in ((1, (1, 1)), (999, (999, 1)), (999, (1, 999)), (1, (998, 999))):
            self.assertEqual(exchanged(CABLE, 1, length)[0][1], length)

    def test_refused(self):
        for odd in NO_CABLES:
            for number, length in ((0, LENGTH), (-1, LENGTH), (99, None), (True, []), (None, (0, (1, 1))), (odd, odd)):
                refused(self, "NoCable", exchanged, odd, number, length)
        for odd in NO_NUMBERS + (3, 4, 12):
            for length in (LENGTH, (0, (1, 1)), None, [], odd):
                refused(self, "NoNumber", exchanged, CABLE, odd, length)
        for odd in NO_LENGTHS:
            for number in (0, 1, 2):
                refused(self, "NoLength", exchanged, CABLE, number, odd)
        refused(self, "NoNumber", exchanged, EVEN[12], 12, LENGTH)
        refused(self, "NoNumber", exchanged, EVEN[1], 1, LENGTH)


class Added(unittest.TestCase):
    def test_ordinary(self):
        other = (((1, (1, 1)), (2, (1, 2))), (9, 1))
        self.assertEqual(added(CABLE, other), (CABLE[0] + other[0], CABLE[1]))
        self.assertEqual(added(other, CABLE), (other[0] + CABLE[0], other[1]))
        self.assertEqual(added(CABLE, CABLE), (CABLE[0] * 2, CABLE[1]))

    def test_twelve_and_thirteen_lengths(self):
        for west in range(1, 13):
            for east in range(1, 13):
                if west + east <= 12:
                    self.assertEqual(added(EVEN[west], EVEN[east]), (EVEN[west + east][0], (west, 1)))
                else:
                    refused(self, "NoLength", added, EVEN[west], EVEN[east])

    def test_its_numbers(self):
        rand = chance(92)
        for _ in range(40):
            one, other = small_cable(rand, rand.randint(1, 6)), small_cable(rand, rand.randint(1, 6))
            told = added(one, other)
            self.assertIs(is_cable(told), True)
            self.assertEqual(steps_of(told), steps_of(one) + steps_of(other))
            self.assertEqual(num(drag_of(told)), num(drag_of(one)) + num(drag_of(other)))
            self.assertEqual(splices_of(told)[len(one[0]) - 1], steps_of(one))
            self.assertEqual(parts(told, len(one[0])), (one, (other[0], one[1])))

    def test_refused(self):
        for odd in NO_CABLES:
            refused(self, "NoCable", added, odd, CABLE)
            refused(self, "NoCable", added, CABLE, odd)
            refused(self, "NoCable", added, EVEN[12], odd)
            refused(self, "NoCable", added, odd, odd)


class Turned(unittest.TestCase):
    def test_ordinary(self):
        self.assertEqual(turned(CABLE), (((20, (1, 4)), (5, (2, 1)), (10, (3, 2))), (7, 3)))
        self.assertEqual(turned(EVEN[1]), EVEN[1])

    def test_turned_twice(self):
        rand = chance(93)
        for _ in range(30):
            cable = some_cable(rand)
            self.assertEqual(turned(turned(cable)), cable)
            self.assertEqual(drag_of(turned(cable)), drag_of(cable))

    def test_leaks(self):
        self.assertEqual(leaks_turned(CABLE, LEAKS), (((0, 1), (5, 1)), ((49, 2), (3, 1)), ((25, 1), (2, 1)), ((35, 1), (1, 1))))
        self.assertEqual(leaks_turned(CABLE, ()), ())
        self.assertEqual(leaks_turned(CABLE, (((0, 1), (4, 1)),)), (((35, 1), (4, 1)),))

    def test_west_and_east_are_exchanged(self):
        rand = chance(94)
        for many in list(range(7)) * 6:
            cable = some_cable(rand, 6)
            leaks = some_leaks(rand, cable, many)
            about, others = turned(cable), leaks_turned(cable, leaks)
            self.assertIs(is_leaks(about, others), True)
            self.assertEqual(leaks_turned(about, others), leaks)
            drag, seen = stretch_of(cable, leaks)
            other_drag, other_seen = stretch_of(about, others)
            self.assertEqual(drag, other_drag)
            self.assertEqual(seen and (seen[1], seen[0], seen[2]), other_seen)
            self.assertEqual(measure(about, others, "west earth"), measure(cable, leaks, "east earth"))
            west_free, east_free, loop = day_of(cable, leaks)
            self.assertEqual(day_of(about, others), (east_free, west_free, loop))

    def test_refused(self):
        for odd in NO_CABLES:
            refused(self, "NoCable", turned, odd)
            for leaks in ((), LEAKS, None, odd):
                refused(self, "NoCable", leaks_turned, odd, leaks)
        for odd in NO_LEAKS:
            refused(self, "NoLeaks", leaks_turned, CABLE, odd)


class LeaksAdded(unittest.TestCase):
    def test_ordinary(self):
        self.assertEqual(leaks_added(CABLE, LEAKS[:3], CABLE, LEAKS[1:]), LEAKS[:3] + (
            ((45, 1), (2, 1)), ((91, 2), (3, 1)), ((70, 1), (5, 1))))
        self.assertEqual(leaks_added(CABLE, (), CABLE, ()), ())
        self.assertEqual(leaks_added(CABLE, LEAKS, CABLE, ()), LEAKS)
        self.assertEqual(leaks_added(CABLE, (), CABLE, LEAKS[:1]), (((35, 1), (1, 1)),))

    def test_where_both_meet(self):
        west_end, east_end = LEAKS[:1], LEAKS[3:]
        self.assertEqual(leaks_added(CABLE, east_end, CABLE, ()), east_end)
        self.assertEqual(leaks_added(CABLE, (), CABLE, west_end), (((35, 1), (1, 1)),))
        refused(self, "NoLeaks", leaks_added, CABLE, east_end, CABLE, west_end)
        refused(self, "NoLeaks", leaks_added, CABLE, LEAKS, CABLE, LEAKS[:2])
        little = frac(Fraction(1, 10 ** 40))
        self.assertEqual(len(leaks_added(CABLE, east_end, CABLE, ((little, (1, 1)),))), 2)

    def test_six_and_seven(self):
        leaks = tuple(((k, 1), (1, 1)) for k in range(1, 7))
        for west in range(7):
            self.assertEqual(len(leaks_added(CABLE, leaks[:west], CABLE, leaks[west:])), 6)
            if west > 0:
                refused(self, "NoLeaks", leaks_added, CABLE, leaks[:west], CABLE, leaks[west - 1:])

    def test_the_stretch_is_that_of_both_joined(self):
        rand = chance(95)
        for _ in range(40):
            one, other = small_cable(rand, rand.randint(1, 6)), small_cable(rand, rand.randint(1, 6))
            leaks, others = some_leaks(rand, one, rand.randint(0, 3)), some_leaks(rand, other, rand.randint(0, 3))
            if leaks and others and num(leaks[-1][0]) == all_steps(one) and others[0][0] == (0, 1):
                refused(self, "NoLeaks", leaks_added, one, leaks, other, others)
                continue
            told = leaks_added(one, leaks, other, others)
            self.assertIs(is_leaks(added(one, other), told), True)
            self.assertEqual(stretch_of(added(one, other), told), joined(stretch_of(one, leaks), stretch_of(other, others)))
            if not others or others[0][0] != (0, 1):
                self.assertEqual(leaks_parted(added(one, other), told, len(one[0])), (leaks, others))

    def test_refused_in_turn(self):
        seven = tuple(((k, 1), (1, 1)) for k in range(7))
        for odd in NO_CABLES:
            for rest in (((), CABLE, ()), (None, CABLE, ()), (LEAKS, odd, LEAKS), (odd, odd, odd)):
                refused(self, "NoCable", leaks_added, odd, *rest)
            for others in ((), LEAKS, None, seven, odd):
                refused(self, "NoCable", leaks_added, CABLE, LEAKS, odd, others)
                refused(self, "NoCable", leaks_added, EVEN[12], LEAKS, odd, others)
        for odd in NO_LEAKS + (seven,):
            for rest in ((CABLE, ()), (None, ()), (odd, odd), (EVEN[12], LEAKS)):
                refused(self, "NoLeaks", leaks_added, CABLE, odd, *rest)
            refused(self, "NoLeaks", leaks_added, CABLE, (), CABLE, odd)
            refused(self, "NoLeaks", leaks_added, EVEN[12], (), CABLE, odd)

    def test_too_many_lengths_ahead_of_leaks_that_are_none(self):
        refused(self, "NoLength", leaks_added, EVEN[12], (), EVEN[1], ())
        refused(self, "NoLength", leaks_added, EVEN[6], LEAKS, EVEN[7], LEAKS)
        end = (((120, 1), (1, 1)),)
        refused(self, "NoLength", leaks_added, EVEN[12], end, EVEN[1], (((0, 1), (1, 1)),))
        self.assertEqual(leaks_added(EVEN[6], LEAKS, EVEN[6], LEAKS[:2])[4:], (((60, 1), (1, 1)), ((70, 1), (2, 1))))


if __name__ == "__main__":
    unittest.main()
