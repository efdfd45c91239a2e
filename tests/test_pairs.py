import unittest
from fractions import Fraction

from earthends.days import day_of
from earthends.leaks import is_leaks
from earthends.measures import measure
from earthends.pairs import east_of, east_span, pair_at, west_of, west_span
from earthends.single import one_leak
from earthends.stretches import joined, stretch_of
from helpers import (
    CABLE, NO_CABLES, NO_DAYS, NOT_OF_TWO, ODD, WRONG_DAYS, Curve, all_steps, chance, day_by, frac, is_told, num, refused,
    small_cable, small_leaks, some_cable, some_leaks, some_two,
)

# WEST 12, EAST 8, LACK 10, EARTH LACK 48: the west leak's drag is up to 6, the east leak's from 26.
DAY = day_by(CABLE, 12, 8, Fraction(24, 5))
LITTLE = Fraction(1, 10 ** 30)
SPANS = (west_span, east_span)
BY_PLACE = (east_of, west_of, pair_at)


def steps_of_span(span, many=6):
    least, greatest = map(num, span)
    return [frac(least + (greatest - least) * Fraction(k, many)) for k in range(many + 1)]


def days_of_two(seed, many):
    rand = chance(seed)
    for _ in range(many):
        if rand.random() < 0.7:
            yield some_two(rand)
        else:
            cable = some_cable(rand)
            yield cable, day_of(cable, some_leaks(rand, cable, rand.choice((2, 2, 4, 6))))


class Spans(unittest.TestCase):
    def test_ordinary(self):
        self.assertEqual(west_span(CABLE, DAY), ((0, 1), (4, 1)))
        # 26 is 15 and 10 and 1, that is 15 steps and 4.
        self.assertEqual(east_span(CABLE, DAY), ((19, 1), (35, 1)))

    def test_one_pair_alone(self):
        day = day_by(CABLE, 12, 8, Fraction(48, 5))
        self.assertEqual(west_span(CABLE, day), ((0, 1), (0, 1)))
        self.assertEqual(east_span(CABLE, day), ((35, 1), (35, 1)))
        self.assertEqual(day_of(CABLE, pair_at(CABLE, day, (0, 1))), day)

    def test_by_hand(self):
        for cable, day in days_of_two(41, 80):
            curve = Curve(cable, day)
            self.assertEqual(west_span(cable, day), (frac(0), frac(curve.places(curve.greatest)[0])))
            self.assertEqual(east_span(cable, day), (frac(curve.places(Fraction(0))[1]), frac(all_steps(cable))))

    def test_leaks_that_make_the_day_lie_in_them(self):
        rand = chance(42)
        for _ in range(60):
            cable = small_cable(rand, rand.randint(1, 6))
            leaks = small_leaks(rand, cable, 2)
            day = day_of(cable, leaks)
            for leak, span in zip(leaks, (west_span(cable, day), east_span(cable, day))):
                self.assertLessEqual(num(span[0]), num(leak[0]))
                self.assertLessEqual(num(leak[0]), num(span[1]))


class Pairs(unittest.TestCase):
    def test_ordinary(self):
        # The west leak at 4: 8 of 12 are left, so 6 of 8, 2 to the east end, 24 between: 8 24 / 10 and 6 24 / 10.
        place, other = frac(Fraction(8, 3)), (27, 1)
        self.assertEqual(east_of(CABLE, DAY, place), other)
        self.assertEqual(west_of(CABLE, DAY, other), place)
        self.assertEqual(pair_at(CABLE, DAY, place), ((place, (96, 5)), (other, (72, 5))))

    def test_told_leaks_make_the_day(self):
        for cable, day in days_of_two(43, 40):
            for place in steps_of_span(west_span(cable, day)):
                pair = pair_at(cable, day, place)
                self.assertIs(is_leaks(cable, pair), True)
                self.assertEqual(pair[0][0], place)
                self.assertEqual(day_of(cable, pair), day)
                self.assertTrue(all(is_told(part) for leak in pair for part in leak))

    def test_by_hand_and_the_way_back(self):
        for cable, day in days_of_two(44, 40):
            curve = Curve(cable, day)
            for x in curve.samples():
                place, other = map(frac, curve.places(x))
                self.assertEqual(east_of(cable, day, place), other)
                self.assertEqual(west_of(cable, day, other), place)
                self.assertEqual(pair_at(cable, day, place), curve.leaks(x))
            for other in steps_of_span(east_span(cable, day)):
                self.assertEqual(east_of(cable, day, west_of(cable, day, other)), other)

    def test_the_very_two_leaks(self):
        rand = chance(45)
        for _ in range(100):
            cable = small_cable(rand, rand.randint(1, 6))
            leaks = small_leaks(rand, cable, 2)
            self.assertEqual(pair_at(cable, day_of(cable, leaks), leaks[0][0]), leaks)

    def test_no_other_pairs(self):
        for place in steps_of_span(west_span(CABLE, DAY)):
            (west, drag), (east, other) = pair = pair_at(CABLE, DAY, place)
            for aside in (LITTLE, -LITTLE, Fraction(1, 3), -Fraction(1, 3)):
                for at, part in enumerate((west, drag, east, other)):
                    parts = [west, drag, east, other]
                    parts[at] = frac(num(part) + aside)
                    leaks = ((parts[0], parts[1]), (parts[2], parts[3]))
                    if is_leaks(CABLE, leaks):
                        self.assertNotEqual(day_of(CABLE, leaks), DAY)
            self.assertEqual(day_of(CABLE, pair), DAY)
        # Places that aren't those of a pair: whatever their drags are, these two never make the day.
        for west, east in ((5, 20), (0, 18), (0, 35), (3, 19), (34, 35)):
            for drag in (1, 7, 19, 40):
                for other in (1, 7, 14, 40):
                    self.assertNotEqual(day_of(CABLE, (((west, 1), (drag, 1)), ((east, 1), (other, 1)))), DAY)

    def test_going_east(self):
        for cable, day in days_of_two(46, 30):
            pairs = [pair_at(cable, day, place) for place in steps_of_span(west_span(cable, day))]
            for (west, east), (next_west, next_east) in zip(pairs, pairs[1:]):
                if west != next_west:
                    self.assertLess(num(west[0]), num(next_west[0]))
                    self.assertLess(num(east[0]), num(next_east[0]))
                    self.assertGreater(num(west[1]), num(next_west[1]))
                    self.assertLess(num(east[1]), num(next_east[1]))

    def test_nothing_measured_tells_them_apart(self):
        rand = chance(47)
        for _ in range(20):
            cable = small_cable(rand, rand.randint(1, 6))
            leaks = small_leaks(rand, cable, rand.randint(2, 6))
            day = day_of(cable, leaks)
            for place in steps_of_span(west_span(cable, day), 3):
                pair = pair_at(cable, day, place)
                for word in ("west free", "east free", "west earth", "east earth", "loop"):
                    self.assertEqual(measure(cable, pair, word), measure(cable, leaks, word))
                more = small_cable(rand, 2)
                stretch = stretch_of(more, small_leaks(rand, more, rand.randint(0, 3)))
                self.assertEqual(joined(stretch, stretch_of(cable, pair)), joined(stretch, stretch_of(cable, leaks)))
                self.assertEqual(joined(stretch_of(cable, pair), stretch), joined(stretch_of(cable, leaks), stretch))

    def test_taken_for_one_leak(self):
        some = 0
        for cable, day in days_of_two(48, 150):
            told = one_leak(cable, "west free", day[0], "east free", day[1])
            if told is not None:
                some += 1
                for place in steps_of_span(west_span(cable, day), 3):
                    self.assertLessEqual(num(place), num(told[0]))
                    self.assertLessEqual(num(told[0]), num(east_of(cable, day, place)))
        self.assertGreater(some, 30)


class Refused(unittest.TestCase):
    def test_no_place(self):
        beyond = ((-1, 1), frac(-LITTLE), frac(4 + LITTLE), (19, 1), (35, 1), (36, 1), [0, 1], 0, 1)
        for odd in beyond + ODD + ((),):
            refused(self, "NoPlace", east_of, CABLE, DAY, odd)
            refused(self, "NoPlace", pair_at, CABLE, DAY, odd)
        beyond = ((-1, 1), (0, 1), (4, 1), frac(19 - LITTLE), frac(35 + LITTLE), (36, 1), [35, 1], 35)
        for odd in beyond + ODD + ((),):
            refused(self, "NoPlace", west_of, CABLE, DAY, odd)
        for place, other in (((0, 1), (19, 1)), ((4, 1), (35, 1))):
            self.assertEqual(east_of(CABLE, DAY, place), other)
            self.assertEqual(west_of(CABLE, DAY, other), place)

    def test_a_little_beyond_each_span(self):
        for cable, day in days_of_two(49, 30):
            for function, span in ((east_of, west_span), (pair_at, west_span), (west_of, east_span)):
                least, greatest = map(num, span(cable, day))
                for place in (least, greatest):
                    function(cable, day, frac(place))
                for place in (least - LITTLE, greatest + LITTLE, least - 1, greatest + 1):
                    refused(self, "NoPlace", function, cable, day, frac(place))

    def test_the_first_from_the_left(self):
        for odd in NO_CABLES:
            for day in (DAY, NOT_OF_TWO[0], WRONG_DAYS[0], None, odd):
                for function in SPANS:
                    refused(self, "NoCable", function, odd, day)
                for function in BY_PLACE:
                    for place in ((0, 1), (-1, 1), None, odd):
                        refused(self, "NoCable", function, odd, day, place)
        for odd in NO_DAYS + WRONG_DAYS:
            for function in SPANS:
                refused(self, "NoDay", function, CABLE, odd)
            for function in BY_PLACE:
                for place in ((0, 1), (-1, 1), None, odd):
                    refused(self, "NoDay", function, CABLE, odd, place)
        for day in NOT_OF_TWO:
            for function in SPANS:
                refused(self, "NoPair", function, CABLE, day)
            for function in BY_PLACE:
                for place in ((0, 1), (-1, 1), (99, 1), None, True, [], "", day):
                    refused(self, "NoPair", function, CABLE, day, place)


if __name__ == "__main__":
    unittest.main()
