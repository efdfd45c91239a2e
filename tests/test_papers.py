import unittest
from fractions import Fraction

from earthends.cables import steps_of
from earthends.checker import holds
from earthends.cutting import cover_of, cuts_needed
from earthends.days import day_of, kind_of
from earthends.lamps import lamp_needed, lamp_plan, ways_of
from earthends.papers import paper_cuts, paper_day, paper_days, paper_lamp
from earthends.tellings import clash_of, telling
from helpers import (
    CABLE, EVEN, LEAKING, NO_CABLES, NO_DAYS, NOT_OF_TWO, WRONG_DAYS, chance, day_by, day_with, refused, replaced, small_cable,
    small_leaks, some_cable, some_leaks, some_two, sound_day, two_at_splices,
)
from test_checkdays import CROSSED, CROSSING, FOUR
from test_tellings import EVEN as THIRTY
from test_tellings import SOUND, one, some_days, two


class Papers(unittest.TestCase):
    def taken(self, told):
        """The claim and the paper, which the checker takes."""
        self.assertIs(type(told), tuple)
        claim, paper = told
        self.assertIs(holds(claim, paper), True, told)
        return claim, paper


class Day(Papers):
    def test_each_kind(self):
        self.assertEqual(paper_day(CABLE, sound_day(CABLE)), (("sound", CABLE, sound_day(CABLE)), None))
        for leak in (((12, 1), (5, 2)), ((0, 1), (1, 1)), ((35, 1), (1, 9)), ((10, 1), (10 ** 20, 3))):
            day = day_of(CABLE, (leak,))
            self.assertEqual(paper_day(CABLE, day), (("one", CABLE, day, leak), None))
            self.taken(paper_day(CABLE, day))
        for day, word in zip(WRONG_DAYS, ("loop", "loop", "earth", "west", "east", "lack")):
            self.assertEqual(self.taken(paper_day(CABLE, day)), (("wrong", CABLE, day), word))

    def test_two_and_more(self):
        rand = chance(141)
        for many in (2, 2, 3, 4, 5, 6):
            for _ in range(6):
                cable = small_cable(rand, rand.randint(1, 6)) if many > 2 else some_cable(rand)
                leaks = (small_leaks if many > 2 else some_leaks)(rand, cable, many)
                day = day_of(cable, leaks)
                claim, paper = self.taken(paper_day(cable, day))
                self.assertEqual(claim[:3], ("pair", cable, day))
                self.assertEqual(day_of(cable, tuple(zip(claim[3], paper))), day)

    def test_refused(self):
        for odd in NO_CABLES:
            for day in (sound_day(CABLE), WRONG_DAYS[0], None, odd):
                refused(self, "NoCable", paper_day, odd, day)
        for odd in NO_DAYS:
            refused(self, "NoDay", paper_day, CABLE, odd)


class Cuts(Papers):
    def check(self, cable, day):
        claim, paper = self.taken(paper_cuts(cable, day))
        self.assertEqual(claim[:3], ("cuts", cable, day))
        self.assertEqual(paper, cover_of(cable, day))
        self.assertEqual(cuts_needed(cable, day), claim[3].bit_length())
        for many in range(-1, 6):
            self.assertIs(holds(replaced(claim, 3, many), paper), many == claim[3])
        return claim[3]

    def test_ordinary(self):
        day = day_with(EVEN[3], 14, 14, 10)
        self.assertEqual(paper_cuts(EVEN[3], day)[0], ("cuts", EVEN[3], day, 2))
        self.assertEqual(paper_cuts(EVEN[1], day_with(EVEN[1], 4, 4, 1)), (("cuts", EVEN[1], day_with(EVEN[1], 4, 4, 1), 0), ((), ())))

    def test_cables_of_one_two_and_more(self):
        rand = chance(142)
        seen = set()
        for lengths in (1, 2, 3, 5, 12):
            for _ in range(8):
                seen.add(self.check(*some_two(rand, lengths=lengths)))
        for _ in range(12):
            cable, _, day = two_at_splices(rand, 12)
            self.check(cable, day)
            cable = some_cable(rand)
            self.check(cable, day_of(cable, some_leaks(rand, cable, rand.randint(2, 6))))
        self.assertEqual(seen, {0, 1, 2})


class Lamp(Papers):
    def check(self, cable, day):
        claim, paper = self.taken(paper_lamp(cable, day))
        self.assertEqual(claim, ("lamp", cable, day, lamp_needed(cable, day)))
        self.assertEqual(paper[0], lamp_plan(cable, day))
        for many in range(-1, 8):
            self.assertIs(holds(replaced(claim, 3, many), paper), many == claim[3])
        return claim[3]

    def test_ordinary(self):
        day = day_with(EVEN[3], 14, 14, 10)
        claim, paper = paper_lamp(EVEN[3], day)
        self.assertEqual(claim, ("lamp", EVEN[3], day, 2))
        self.assertEqual(paper[1], ((0, 1, 1), (0, 2, 2), (1, 2, 1)))
        day = day_with(EVEN[1], 4, 4, 1)
        self.assertEqual(paper_lamp(EVEN[1], day), (("lamp", EVEN[1], day, 0), ((), ())))

    def test_cables_of_one_two_and_more(self):
        rand = chance(143)
        seen = set()
        for lengths in (1, 2, 3, 5, 12):
            for _ in range(8):
                seen.add(self.check(*some_two(rand, lengths=lengths)))
        for _ in range(12):
            cable, _, day = two_at_splices(rand, 12)
            seen.add(self.check(cable, day))
            cable = some_cable(rand)
            seen.add(self.check(cable, day_of(cable, some_leaks(rand, cable, rand.randint(2, 6)))))
        self.assertTrue({0, 1, 2, 3} <= seen, seen)

    def test_many_ways(self):
        most = 0
        for west in range(5, 116, 11):
            for east in range(5, 120 - west, 11):
                for share in (Fraction(1, 100), 5, 50, 1000):
                    if share <= west * east:
                        day = day_with(EVEN[12], west, east, Fraction(share))
                        most = max(most, self.check(EVEN[12], day))
                        self.assertLessEqual(len(ways_of(EVEN[12], day)), 12)
        self.assertGreater(most, 3)


class OnePair(Papers):
    def test_leaks_at_both_ends(self):
        # EARTH LACK is all of WEST EAST, so that no other pair makes the day.
        for cable, needed in ((EVEN[1], 0), (EVEN[2], 1), (EVEN[12], 1), (CABLE, 1)):
            leaks = (((0, 1), (5, 2)), ((steps_of(cable), 1), (7, 1)))
            day = day_of(cable, leaks)
            places, drags = zip(*leaks)
            self.assertEqual(self.taken(paper_day(cable, day)), (("pair", cable, day, places), drags))
            claim, paper = self.taken(paper_cuts(cable, day))
            self.assertEqual((claim[3], paper[1]), (needed, ((0, 1),) * needed))
            self.assertEqual(self.taken(paper_lamp(cable, day)), (("lamp", cable, day, 0), ((), ())))
            self.assertEqual(self.taken(paper_days(cable, (day,))), (("fits", cable, (day,), places), (drags,)))


class RefusedOfTwo(unittest.TestCase):
    def test_the_first_from_the_left(self):
        for function in (paper_cuts, paper_lamp):
            for odd in NO_CABLES:
                for day in (NOT_OF_TWO[0], WRONG_DAYS[0], None, odd, LEAKING):
                    refused(self, "NoCable", function, odd, day)
            for odd in NO_DAYS + WRONG_DAYS:
                refused(self, "NoDay", function, CABLE, odd)
            for day in NOT_OF_TWO:
                refused(self, "NoPair", function, CABLE, day)


class Days(Papers):
    def check(self, cable, days):
        days = tuple(days)
        claim, paper = self.taken(paper_days(cable, days))
        self.assertEqual(claim[1:3], (cable, days))
        word, *told = telling(cable, days)
        self.assertEqual(claim[0], {"sound": "fits", "one": "fits", "curve": "fits", "pairs": "all", "clash": "clash"}[word])
        if word == "pairs":
            self.assertEqual(claim[3], told[0])
        elif word == "clash":
            self.assertEqual(claim[3], clash_of(cable, days))
        else:
            self.assertEqual(len(claim[3]), {"sound": 0, "one": 1, "curve": 2}[word])
        return claim, paper

    def test_no_days_and_sound_ones(self):
        self.assertEqual(self.check(THIRTY, ()), (("fits", THIRTY, (), ()), ()))
        for many in (1, 2, 12):
            self.assertEqual(self.check(THIRTY, (SOUND,) * many)[1], ((),) * many)

    def test_one(self):
        claim, paper = self.check(THIRTY, (SOUND, one(4, 7), one(4, 2)))
        self.assertEqual((claim[3], paper), (((4, 1),), ((None,), ((7, 1),), ((2, 1),))))
        for place in (0, 10, 30):
            self.check(THIRTY, (one(place, 1), one(place, 2)))

    def test_curve(self):
        day = two(4, 3, 22, 5)
        for days in ((day,), (day, day), (SOUND, SOUND, day), (SOUND, day, SOUND, day)):
            self.assertEqual(self.check(THIRTY, days)[0][0], "fits")

    def test_pairs(self):
        day, other = two(4, 3, 22, 5), two(4, 5, 22, 3)
        for days in ((day, other), (SOUND, day, day, other), (one(4, 1), one(4, 2), one(22, 1)), (one(4, 1), one(4, 5), day, day),
                     (day, SOUND, one(22, 1)), (SOUND, one(22, 1), one(4, 1)), CROSSING + (SOUND,)):
            self.assertEqual(self.check(THIRTY, days)[0][0], "all")
        for days in (CROSSING, CROSSING[::-1], CROSSING[:2], (SOUND, CROSSING[2], CROSSING[2], CROSSING[1])):
            self.assertEqual(self.check(THIRTY, days)[0][3], CROSSED)

    def test_clashes(self):
        day = day_by(THIRTY, 14, 14, 7)
        for days, numbers in (
                ((day_by(THIRTY, 20, 20, 1),), (0,)), ((SOUND, (None, None, (1, 1)), day), (1,)),
                ((day, one(15, 2)), (0, 1)), ((SOUND, one(15, 3), one(15, 2), day), (1, 3)),
                ((day_by(THIRTY, 14, 14, 10), day_by(THIRTY, 13, Fraction(29, 2), 8)), (0, 1)),
                ((one(4, 1), one(5, 1), one(6, 1)), (0, 1, 2)), ((SOUND, one(4, 1), one(4, 2), one(5, 1), one(6, 1)), (1, 3, 4)),
                (FOUR, (0, 1, 2, 3)), ((SOUND, FOUR[0], FOUR[1], SOUND, FOUR[2], FOUR[3], FOUR[1]), (1, 2, 4, 5))):
            claim, paper = self.check(THIRTY, days)
            self.assertEqual((claim[0], claim[3], len(paper)), ("clash", numbers, len(numbers)))

    def test_by_chance(self):
        rand = chance(144)
        seen = {}
        for cable, days in some_days(rand, 200):
            claim, _ = self.check(cable, days)
            seen[claim[0]] = seen.get(claim[0], 0) + 1
        self.assertTrue(min(seen.get(word, 0) for word in ("fits", "all", "clash")) > 10, seen)

    def test_refused(self):
        for odd in NO_CABLES:
            for days in ((), (SOUND,), None, [], odd):
                refused(self, "NoCable", paper_days, odd, days)
        for odd in NO_DAYS:
            if odd not in ((), (LEAKING,)):
                refused(self, "NoDays", paper_days, CABLE, odd)
            for days in ((odd,), (SOUND, odd), (odd, SOUND), [SOUND, odd]):
                refused(self, "NoDays", paper_days, CABLE, days)
        for days in ([], [SOUND], (SOUND,) * 13, SOUND, {}, {SOUND: 1}, frozenset([SOUND])):
            refused(self, "NoDays", paper_days, CABLE, days)


class Same(unittest.TestCase):
    def test_told_the_same_each_time(self):
        rand = chance(145)
        for _ in range(10):
            cable, day = some_two(rand)
            for function in (paper_day, paper_cuts, paper_lamp):
                self.assertEqual(function(cable, day), function(cable, day))
            self.assertEqual(paper_days(cable, (day,)), paper_days(cable, (day,)))
            self.assertEqual(kind_of(cable, day), ("two",))


if __name__ == "__main__":
    unittest.main()
