import unittest
from fractions import Fraction

from earthends.measures import measure
from earthends.stretches import stretch_of
from helpers import (
    ODD, WRONG_WORDS, all_drag, chance, frac, is_told, num, reads, refused, some_cable, some_leaks, some_place,
)

CABLE = (((10, (3, 2)), (5, (2, 1)), (20, (1, 4))), (7, 3))
WORDS = ("west free", "east free", "west earth", "east earth", "loop")


def beyond(reading):
    """A reading for comparing: None is beyond all."""
    return (1, 0) if reading is None else (0, num(reading))


class Readings(unittest.TestCase):
    def test_without_a_leak(self):
        told = [measure(CABLE, (), word) for word in WORDS]
        self.assertEqual(told, [None, None, (30, 1), (30, 1), (97, 3)])

    def test_with_one(self):
        # 16 west of it, 14 east of it, 2 to earth.
        told = [measure(CABLE, (((21, 2), (2, 1)),), word) for word in WORDS]
        self.assertEqual(told, [(18, 1), (16, 1), (71, 4), (142, 9), (97, 3)])

    def test_with_two(self):
        # WEST 17, EAST 8, EARTH 6/5.
        told = [measure(CABLE, (((10, 1), (4, 1)), ((15, 1), (6, 1))), word) for word in WORDS]
        self.assertEqual(told, [(91, 5), (46, 5), frac(17 + Fraction(48, 46)), frac(8 + Fraction(102, 91)), (82, 3)])

    def test_at_either_end(self):
        told = [measure(CABLE, (((0, 1), (2, 1)),), word) for word in WORDS]
        self.assertEqual(told, [(2, 1), (32, 1), (15, 8), (30, 1), (97, 3)])
        told = [measure(CABLE, (((35, 1), (2, 1)),), word) for word in WORDS]
        self.assertEqual(told, [(32, 1), (2, 1), (30, 1), (15, 8), (97, 3)])

    def test_by_the_numbers_of_the_stretch(self):
        rand = chance(16)
        for _ in range(100):
            cable = some_cable(rand)
            leaks = some_leaks(rand, cable, rand.randint(1, 6))
            west, east, earth = map(num, stretch_of(cable, leaks)[1])
            right = (west + earth, east + earth, west + earth * east / (earth + east), east + earth * west / (earth + west),
                     num(cable[1]) + west + east)
            for word, reading in zip(WORDS, right):
                told = measure(cable, leaks, word)
                self.assertEqual(told, frac(reading))
                self.assertTrue(is_told(told))

    def test_by_the_net_itself(self):
        rand = chance(17)
        for turn in range(60):
            cable = some_cable(rand, 4)
            leaks = some_leaks(rand, cable, turn % 7)
            for word in WORDS:
                right = reads(cable, leaks, word)
                self.assertEqual(measure(cable, leaks, word), None if right is None else frac(right), (cable, leaks, word))

    def test_what_ties_them(self):
        rand = chance(18)
        for _ in range(100):
            cable = some_cable(rand)
            leaks = some_leaks(rand, cable, rand.randint(1, 6))
            west_free, east_free, west_earth, east_earth, _ = (num(measure(cable, leaks, word)) for word in WORDS)
            self.assertEqual(west_earth * east_free, east_earth * west_free)

    def test_one_leak_more_or_a_lesser_drag(self):
        rand = chance(19)
        for _ in range(100):
            cable = some_cable(rand)
            leaks = some_leaks(rand, cable, rand.randint(1, 6))
            at = rand.randrange(len(leaks))
            fewer = leaks[:at] + leaks[at + 1:]
            place, drag = leaks[at]
            lesser = leaks[:at] + ((place, frac(num(drag) * Fraction(rand.randint(1, 98), 99))),) + leaks[at + 1:]
            for word in WORDS:
                here = beyond(measure(cable, leaks, word))
                self.assertLessEqual(here, beyond(measure(cable, fewer, word)))
                self.assertLessEqual(beyond(measure(cable, lesser, word)), here)

    def test_bounds(self):
        rand = chance(20)
        for _ in range(30):
            cable = some_cable(rand)
            place = some_place(rand, cable)
            for word in WORDS[2:4]:
                self.assertLessEqual(num(measure(cable, ((place, (1, 3)),), word)), all_drag(cable))


class Refused(unittest.TestCase):
    def test_no_cable(self):
        for odd in ODD + ((), list(CABLE), ((), (0, 1))):
            for leaks, word in (((), "loop"), (None, "loop"), ((), None), (True, []), (odd, odd)):
                refused(self, "NoCable", measure, odd, leaks, word)

    def test_no_leaks(self):
        for odd in ODD + ([], (((36, 1), (1, 1)),), (((0, 1), (0, 1)),)):
            for word in WORDS + (None, "x", [], True, odd):
                refused(self, "NoLeaks", measure, CABLE, odd, word)

    def test_no_word(self):
        for leaks in ((), (((1, 1), (1, 1)),)):
            for odd in ODD + ((),) + WRONG_WORDS:
                refused(self, "NoWord", measure, CABLE, leaks, odd)


if __name__ == "__main__":
    unittest.main()
