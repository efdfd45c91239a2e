import unittest
from fractions import Fraction
from itertools import product

from earthends.days import day_of, is_day, kind_of, seen_by
from earthends.leaks import is_leaks
from helpers import (
    CABLE, LEAKING, NO_CABLES, NO_DAYS, ODD, all_drag, all_steps, chance, day_by, frac, is_told, num, place_of, reads,
    refused, small_cable, small_leaks, some_cable, some_leaks, sound_day, splice_steps, west_drag,
)

SOUND = (None, None, (97, 3))


class IsDay(unittest.TestCase):
    def test_days(self):
        for day in (LEAKING, SOUND, (None, None, (0, 1)), ((1, 10 ** 59), (10 ** 59, 1), (0, 1)), ((1, 1), (1, 1), (0, 1)),
                    ((1, 2), (3, 2), (10 ** 59, 7))):
            self.assertIs(is_day(day), True, day)

    def test_things_of_any_kind(self):
        for odd in NO_DAYS:
            self.assertIs(is_day(odd), False, odd)


class DayOf(unittest.TestCase):
    def test_ordinary(self):
        self.assertEqual(day_of(CABLE, ()), SOUND)
        self.assertEqual(day_of(CABLE, (((21, 2), (2, 1)),)), ((18, 1), (16, 1), (97, 3)))
        # 15 to the first, 10 between, 5 behind: WEST is 15 and 5/6, EAST 5 and 5/6, EARTH 1/12.
        self.assertEqual(day_of(CABLE, (((10, 1), (1, 1)), ((15, 1), (1, 1)))), ((191, 12), (71, 12), (24, 1)))

    def test_by_the_net(self):
        rand = chance(31)
        for many in list(range(7)) * 8:
            cable = some_cable(rand) if rand.random() < 0.5 else small_cable(rand, rand.randint(3, 8))
            leaks = some_leaks(rand, cable, many)
            told = day_of(cable, leaks)
            readings = [reads(cable, leaks, word) for word in ("west free", "east free", "loop")]
            self.assertEqual(told, tuple(None if reading is None else frac(reading) for reading in readings))
            self.assertIs(is_day(told), True)

    def test_refused(self):
        for odd in NO_CABLES:
            for leaks in ((), (((1, 1), (1, 1)),), None, odd):
                refused(self, "NoCable", day_of, odd, leaks)
        for odd in ODD + ([], (((36, 1), (1, 1)),), (((1, 1), (0, 1)),), (((2, 1), (1, 1)), ((1, 1), (1, 1)))):
            refused(self, "NoLeaks", day_of, CABLE, odd)


def kind_by_hand(cable, day):
    """The kind by the words of the document, told one after another."""
    back, whole = num(cable[1]), all_drag(cable)
    if day == sound_day(cable):
        return ("sound",)
    if day[0] is None:
        return ("wrong", "loop")
    west_free, east_free, loop = map(num, day)
    earth = (west_free + east_free + back - loop) / 2
    west, east, lack = west_free - earth, east_free - earth, back + whole - loop
    words = ("loop", "earth", "west", "east", "lack")
    for word, amiss in zip(words, (lack < 0, earth <= 0, west < 0, east < 0, earth * lack > west * east)):
        if amiss:
            return ("wrong", word)
    return ("one", (frac(place_of(cable, west)), frac(earth))) if lack == 0 else ("two",)


class KindOf(unittest.TestCase):
    def test_sound(self):
        self.assertEqual(kind_of(CABLE, SOUND), ("sound",))
        rand = chance(32)
        for _ in range(50):
            cable = some_cable(rand)
            self.assertEqual(kind_of(cable, sound_day(cable)), ("sound",))

    def test_loop_of_a_day_that_begins_with_none(self):
        for loop in (0, 1, Fraction(97, 3) - Fraction(1, 10 ** 40), Fraction(97, 3) + Fraction(1, 10 ** 40), 30, 10 ** 50):
            self.assertEqual(kind_of(CABLE, (None, None, frac(loop))), ("wrong", "loop"))

    def test_loop_where_more_is_seen_than_all_drag(self):
        little = Fraction(1, 10 ** 40)
        for west, east, earth in ((15, 15 + little, 2), (0, 30 + little, 2), (31, -1 + little, 2), (20, 20, 0), (20, 20, -1),
                                  (-1, 40, 3), (40, -1, 3)):
            self.assertEqual(kind_of(CABLE, day_by(CABLE, west, east, earth)), ("wrong", "loop"))

    def test_earth(self):
        for west, east, earth in ((15, 15, 0), (15, 15, -1), (1, 1, 0), (20, 5, Fraction(-1, 10 ** 40)), (20, 5, 0), (9, 9, -8)):
            self.assertEqual(kind_of(CABLE, day_by(CABLE, west, east, earth)), ("wrong", "earth"))
        # Neither is EARTH above 0 nor WEST, or EAST, from 0 on: only of readings that are too great for the loop.
        self.assertEqual(kind_of(CABLE, ((1, 1), (1, 1), (13, 3))), ("wrong", "earth"))

    def test_west_and_east(self):
        little = Fraction(1, 10 ** 40)
        for west, east in ((-1, 10), (-little, 30), (-1, -1), (-little, 0), (-1, 31), (-little, -little)):
            self.assertEqual(kind_of(CABLE, day_by(CABLE, west, east, 5)), ("wrong", "west"))
        for west, east in ((10, -1), (30, -little), (0, -1), (0, -little), (31, -1)):
            self.assertEqual(kind_of(CABLE, day_by(CABLE, west, east, 5)), ("wrong", "east"))

    def test_lack(self):
        little = Fraction(1, 10 ** 40)
        # 30 - 12 - 8 is 10, 12 times 8 is 96.
        self.assertEqual(kind_of(CABLE, day_by(CABLE, 12, 8, Fraction(48, 5))), ("two",))
        self.assertEqual(kind_of(CABLE, day_by(CABLE, 12, 8, Fraction(48, 5) - little)), ("two",))
        self.assertEqual(kind_of(CABLE, day_by(CABLE, 12, 8, Fraction(48, 5) + little)), ("wrong", "lack"))
        self.assertEqual(kind_of(CABLE, day_by(CABLE, 12, 8, 10 ** 40)), ("wrong", "lack"))
        for west, east in ((0, 29), (29, 0), (0, 30 - little), (30 - little, 0), (0, 0)):
            self.assertEqual(kind_of(CABLE, day_by(CABLE, west, east, 1)), ("wrong", "lack"))

    def test_one_and_a_little_more_lack(self):
        little = Fraction(1, 10 ** 40)
        self.assertEqual(kind_of(CABLE, day_by(CABLE, 16, 14, 2)), ("one", ((21, 2), (2, 1))))
        self.assertEqual(kind_of(CABLE, day_by(CABLE, 16, 14 - little, 2)), ("two",))
        self.assertEqual(kind_of(CABLE, day_by(CABLE, 16, 14 + little, 2)), ("wrong", "loop"))
        self.assertEqual(kind_of(CABLE, day_by(CABLE, 0, 30, 2)), ("one", ((0, 1), (2, 1))))
        self.assertEqual(kind_of(CABLE, day_by(CABLE, 30, 0, 2)), ("one", ((35, 1), (2, 1))))
        self.assertEqual(kind_of(CABLE, day_by(CABLE, 15, 15, 2)), ("one", ((10, 1), (2, 1))))

    def test_all_edges_together(self):
        # Each number below, at and above its edge, so that each word stands alone and with each later one.
        numbers = [Fraction(n) for n in (-3, -1, 0, 1, 6, 15, 24, 30, 31)]
        earths = [Fraction(n) for n in (-2, 0, 1, 2, 9, 40)]
        seen = {}
        for back in ((0, 1), (7, 3), (50, 1)):
            cable = (CABLE[0], back)
            for west, east, earth in product(numbers, numbers, earths):
                day = day_by(cable, west, east, earth)
                if is_day(day):
                    kind = kind_of(cable, day)
                    self.assertEqual(kind, kind_by_hand(cable, day), (west, east, earth))
                    seen[kind[0], kind[-1] if kind[0] == "wrong" else None] = True
        self.assertEqual(len(seen), 7)

    def test_days_by_chance(self):
        rand = chance(33)
        for _ in range(400):
            cable = small_cable(rand, rand.randint(1, 4))
            whole = all_drag(cable)
            day = tuple(frac(whole * Fraction(rand.randint(1, 60), 40)) for _ in range(3))
            self.assertEqual(kind_of(cable, day), kind_by_hand(cable, day))

    def test_leaks_make_no_wrong_day(self):
        rand = chance(34)
        for many in list(range(7)) * 12:
            cable = some_cable(rand) if rand.random() < 0.3 else small_cable(rand, rand.randint(1, 8))
            leaks = some_leaks(rand, cable, many) if rand.random() < 0.3 else small_leaks(rand, cable, many)
            kind = kind_of(cable, day_of(cable, leaks))
            self.assertEqual(kind, (("sound",), ("one",) + leaks)[many] if many < 2 else ("two",))

    def test_the_leak_of_a_day_of_one_makes_it(self):
        rand = chance(35)
        for _ in range(60):
            cable = some_cable(rand, 4)
            for place in [Fraction(0), Fraction(all_steps(cable))] + [Fraction(steps) for steps in splice_steps(cable)]:
                west, earth = west_drag(cable, place), Fraction(rand.randint(1, 99), rand.randint(1, 99))
                day = day_by(cable, west, all_drag(cable) - west, earth)
                word, leak = kind_of(cable, day)
                self.assertEqual((word, leak), ("one", (frac(place), frac(earth))))
                self.assertIs(is_leaks(cable, (leak,)), True)
                self.assertEqual(day_of(cable, (leak,)), day)

    def test_refused(self):
        for odd in NO_CABLES:
            for day in (LEAKING, SOUND, None, odd, ((-1, 1), None, [])):
                refused(self, "NoCable", kind_of, odd, day)
        for odd in NO_DAYS:
            refused(self, "NoDay", kind_of, CABLE, odd)


class SeenBy(unittest.TestCase):
    def test_sound(self):
        self.assertIsNone(seen_by(CABLE, SOUND))

    def test_one_and_two(self):
        for west, east, earth in ((16, 14, 2), (0, 30, 1), (30, 0, 1), (12, 8, 3), (12, 8, Fraction(48, 5)), (1, 1, Fraction(1, 28))):
            told = seen_by(CABLE, day_by(CABLE, west, east, earth))
            self.assertEqual(told, (frac(west), frac(east), frac(earth)))
            self.assertTrue(all(is_told(part) for part in told))

    def test_of_leaks_it_is_what_their_stretch_has(self):
        from earthends.stretches import stretch_of
        rand = chance(36)
        for many in list(range(7)) * 8:
            cable = some_cable(rand, 6)
            leaks = some_leaks(rand, cable, many)
            self.assertEqual(seen_by(cable, day_of(cable, leaks)), stretch_of(cable, leaks)[1])

    def test_refused(self):
        for odd in NO_CABLES:
            for day in (LEAKING, SOUND, None, odd, (None, None, (0, 1))):
                refused(self, "NoCable", seen_by, odd, day)
        for odd in NO_DAYS:
            refused(self, "NoDay", seen_by, CABLE, odd)
        for day in ((None, None, (0, 1)), day_by(CABLE, 15, 16, 2), day_by(CABLE, 15, 15, 0), day_by(CABLE, -1, 15, 2),
                    day_by(CABLE, 15, -1, 2), day_by(CABLE, 12, 8, 10)):
            refused(self, "NoDay", seen_by, CABLE, day)


if __name__ == "__main__":
    unittest.main()
