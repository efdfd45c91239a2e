import unittest
from fractions import Fraction
from itertools import permutations

from earthends.cables import place_at
from earthends.leaks import is_leaks
from earthends.measures import measure
from earthends.single import drag_by, one_leak
from helpers import (
    ODD, WRONG_WORDS, all_drag, all_steps, chance, frac, is_told, num, refused, some_cable, some_leaks, some_place,
    splice_steps, west_drag,
)

CABLE = (((10, (3, 2)), (5, (2, 1)), (20, (1, 4))), (7, 3))
WORDS = ("west free", "east free", "west earth", "east earth")
TWOS = tuple(permutations(WORDS, 2))
NO_READINGS = ((-1, 1), (-1, 10 ** 59), [1, 1], 1, None) + ODD + ((),)
NO_PLACES = ((-1, 1), (36, 1), (35 * 10 ** 50 + 1, 10 ** 50), [1, 1], 1) + ODD + ((),)
NO_WORDS = ODD + ((), "loop") + WRONG_WORDS
LEAK = ((21, 2), (2, 1))


def leaks_everywhere(rand, cable):
    """One leak at each end, at the splices, in the middle of all drag, and anywhere."""
    places = [(0, 1), (all_steps(cable), 1), place_at(cable, frac(all_drag(cable) / 2)), some_place(rand, cable)]
    places += [(steps, 1) for steps in splice_steps(cable)]
    for place in places:
        for drag in ((1, 1), (1, 10 ** 40 - 1), (10 ** 40 - 1, 7), frac(all_drag(cable)), frac(Fraction(rand.randint(1, 99), 7))):
            yield (place, drag)


class DragBy(unittest.TestCase):
    def test_the_four(self):
        # 16 west of it, 14 east of it, 2 to earth.
        for word, reading in zip(WORDS, ((18, 1), (16, 1), (71, 4), (142, 9))):
            self.assertEqual(drag_by(CABLE, word, reading, (21, 2)), (2, 1))

    def test_its_own_reading_and_place_tell_its_drag(self):
        rand = chance(21)
        for cable in [CABLE] + [some_cable(rand, 5) for _ in range(12)]:
            for place, drag in leaks_everywhere(rand, cable):
                for word in WORDS:
                    told = drag_by(cable, word, measure(cable, ((place, drag),), word), place)
                    unseen = (word, num(place)) in (("west earth", all_steps(cable)), ("east earth", 0))
                    self.assertEqual(told, None if unseen else drag)
                    self.assertTrue(unseen or is_told(told))

    def test_a_leak_at_the_far_end_that_is_led_to_earth(self):
        for reading in ((0, 1), (1, 1), (29, 1), (30, 1), (31, 1), (10 ** 59, 1)):
            self.assertIsNone(drag_by(CABLE, "west earth", reading, (35, 1)))
            self.assertIsNone(drag_by(CABLE, "east earth", reading, (0, 1)))

    def test_a_leak_at_the_near_end(self):
        for word, place in (("west earth", (0, 1)), ("east earth", (35, 1))):
            self.assertEqual(drag_by(CABLE, word, (15, 1), place), (30, 1))
            self.assertEqual(drag_by(CABLE, word, (10, 1), place), (15, 1))
        for word, place in (("west free", (0, 1)), ("east free", (35, 1))):
            for reading in ((1, 10 ** 59), (30, 1), (31, 1), (10 ** 59, 1)):
                self.assertEqual(drag_by(CABLE, word, reading, place), reading)
        for word, place in (("west free", (0, 1)), ("west earth", (0, 1)), ("east free", (35, 1)), ("east earth", (35, 1))):
            self.assertIsNone(drag_by(CABLE, word, (0, 1), place))

    def test_readings_that_none_makes(self):
        for word in WORDS:
            for reading in ((0, 1), (13, 1), (1, 10 ** 59)):
                self.assertIsNone(drag_by(CABLE, word, reading, (21, 2)))
        # At the leak itself, a little beyond it, a little before all drag, at all drag and beyond it.
        little = Fraction(1, 10 ** 30)
        for word, near, far in (("west earth", 16, 14), ("east earth", 14, 16)):
            self.assertIsNone(drag_by(CABLE, word, (near, 1), (21, 2)))
            for part in (little, Fraction(far) / 2, far - little):
                told = num(drag_by(CABLE, word, frac(near + part), (21, 2)))
                self.assertEqual(told * far / (told + far), part)
            for reading in (30, 30 + little, 31, 10 ** 50):
                self.assertIsNone(drag_by(CABLE, word, frac(reading), (21, 2)))
        for word, near in (("west free", 16), ("east free", 14)):
            self.assertIsNone(drag_by(CABLE, word, (near, 1), (21, 2)))
            for part in (little, 30 - near, 31, 10 ** 50):
                self.assertEqual(drag_by(CABLE, word, frac(near + part), (21, 2)), frac(part))

    def test_what_is_told_makes_the_reading(self):
        rand = chance(22)
        for _ in range(300):
            cable = some_cable(rand)
            place, word = some_place(rand, cable), rand.choice(WORDS)
            reading = frac(all_drag(cable) * Fraction(rand.randint(0, 130), 100))
            told = drag_by(cable, word, reading, place)
            west = west_drag(cable, num(place))
            near, far = (west, all_drag(cable) - west) if word.startswith("west") else (all_drag(cable) - west, west)
            some = near < num(reading) and (word.endswith("free") or num(reading) < near + far)
            self.assertEqual(told is not None, some)
            if some:
                self.assertEqual(measure(cable, ((place, told),), word), reading)

    def test_refused(self):
        for odd in ODD + ((), list(CABLE), ((), (0, 1))):
            for rest in (("west free", (1, 1), (1, 1)), ("loop", None, None), (odd, odd, odd), (None, (1, 1), (1, 1))):
                refused(self, "NoCable", drag_by, odd, *rest)
        for odd in NO_WORDS:
            for rest in (((1, 1), (1, 1)), (None, (1, 1)), ((-1, 1), (-1, 1)), (odd, odd)):
                refused(self, "NoWord", drag_by, CABLE, odd, *rest)
        for word in WORDS:
            for odd in NO_READINGS:
                for place in ((1, 1), (-1, 1), (99, 1), None, odd):
                    refused(self, "NoReading", drag_by, CABLE, word, odd, place)
            for odd in NO_PLACES:
                for reading in ((0, 1), (1, 1), (99, 1)):
                    refused(self, "NoPlace", drag_by, CABLE, word, reading, odd)


class OneLeak(unittest.TestCase):
    def told_both_ways(self, cable, word, reading, other, second):
        told = one_leak(cable, word, reading, other, second)
        self.assertEqual(one_leak(cable, other, second, word, reading), told)
        return told

    def test_by_each_two(self):
        readings = dict(zip(WORDS, ((18, 1), (16, 1), (71, 4), (142, 9))))
        for word, other in TWOS:
            self.assertEqual(one_leak(CABLE, word, readings[word], other, readings[other]), LEAK)

    def test_the_very_leak(self):
        rand = chance(23)
        for cable in [CABLE, (((1, (1, 1)),), (0, 1))] + [some_cable(rand, 5) for _ in range(12)]:
            for leak in leaks_everywhere(rand, cable):
                readings = {word: measure(cable, (leak,), word) for word in WORDS}
                for word, other in TWOS:
                    told = one_leak(cable, word, readings[word], other, readings[other])
                    self.assertEqual(told, leak, (cable, word, other))

    def test_each_that_is_told_makes_both(self):
        rand = chance(24)
        some = none = 0
        for _ in range(1500):
            cable = some_cable(rand, 3) if rand.random() < 0.5 else (((12, (1, 1)),), (0, 1))
            whole = all_drag(cable)
            word, other = rand.choice(TWOS)
            reading, second = (frac(whole * Fraction(rand.randint(0, 15), 12)) for _ in range(2))
            told = self.told_both_ways(cable, word, reading, other, second)
            none += told is None
            if told is not None:
                some += 1
                self.assertIs(is_leaks(cable, (told,)), True)
                self.assertEqual(measure(cable, (told,), word), reading)
                self.assertEqual(measure(cable, (told,), other), second)
        self.assertGreater(some, 100)
        self.assertGreater(none, 100)

    def test_none_is_told_only_where_there_is_none(self):
        # Both readings of leaks at all twelfths, through drags of whole numbers: each pair of them that one leak makes is known.
        cable = (((12, (1, 1)),), (0, 1))
        made = {}
        for k in range(49):
            for drag in range(1, 15):
                leak = (frac(Fraction(k, 4)), (drag, 1))
                readings = {word: measure(cable, (leak,), word) for word in WORDS}
                for word, other in TWOS:
                    key = (word, readings[word], other, readings[other])
                    self.assertEqual(made.setdefault(key, leak), leak)
        for key, leak in made.items():
            self.assertEqual(one_leak(cable, *key), leak)

    def test_readings_that_no_leak_makes(self):
        for rows in (
                ("west free", (0, 1), "east free", (0, 1)), ("west free", (1, 1), "east free", (1, 1)),
                ("west free", (15, 1), "east free", (15, 1)), ("west free", (0, 1), "east free", (30, 1)),
                ("west free", (100, 1), "east free", (1, 1)), ("west free", (10, 1), "west earth", (10, 1)),
                ("west free", (10, 1), "west earth", (11, 1)), ("west free", (50, 1), "west earth", (31, 1)),
                ("west free", (40, 1), "west earth", (40, 1)), ("west free", (35, 1), "west earth", (40, 1)),
                ("west free", (30, 1), "west earth", (30, 1)), ("west free", (0, 1), "west earth", (0, 1)),
                ("west free", (0, 1), "east earth", (0, 1)), ("west free", (0, 1), "east earth", (30, 1)),
                ("west free", (10, 1), "east earth", (31, 1)), ("west free", (7, 1), "east earth", (16, 1)),
                ("west earth", (0, 1), "east earth", (0, 1)), ("west earth", (0, 1), "east earth", (1, 1)),
                ("west earth", (1, 1), "east earth", (0, 1)), ("west earth", (30, 1), "east earth", (30, 1)),
                ("west earth", (31, 1), "east earth", (31, 1)), ("west earth", (31, 1), "east earth", (29, 1)),
                ("west earth", (30, 1), "east earth", (31, 1)), ("west earth", (31, 1), "east earth", (30, 1)),
                ("west earth", (0, 1), "east earth", (30, 1)), ("west earth", (30, 1), "east earth", (0, 1)),
                ("west earth", (40, 1), "east earth", (90, 1)), ("west earth", (1, 1), "east earth", (1, 1)),
                # The place would be no fraction.
                ("west free", (18, 1), "west earth", (53, 3)), ("west free", (18, 1), "east earth", (47, 3)),
                ("west earth", (20, 1), "east earth", (19, 1))):
            word, reading, other, second = rows
            self.assertIsNone(self.told_both_ways(CABLE, *rows), rows)
            turn = {"west": "east", "east": "west"}
            mirrored = [" ".join(turn.get(part, part) for part in x.split(" ")) for x in (word, other)]
            self.assertIsNone(self.told_both_ways(CABLE, mirrored[0], reading, mirrored[1], second), rows)

    def test_beside_the_readings_of_a_leak(self):
        readings = dict(zip(WORDS, map(Fraction, (18, 16, Fraction(71, 4), Fraction(142, 9)))))
        little = Fraction(1, 10 ** 30)
        for word, other in TWOS:
            for aside in (little, -little, 1, -1):
                second = frac(readings[other] + aside)
                told = one_leak(CABLE, word, frac(readings[word]), other, second)
                self.assertNotEqual(told, LEAK)
                if told is not None:
                    self.assertEqual(measure(CABLE, (told,), other), second)

    def test_at_the_ends_by_both_earth(self):
        self.assertEqual(one_leak(CABLE, "west earth", (30, 1), "east earth", (15, 8)), ((35, 1), (2, 1)))
        self.assertEqual(one_leak(CABLE, "west earth", (15, 8), "east earth", (30, 1)), ((0, 1), (2, 1)))

    def test_no_cable_or_word_or_reading(self):
        for odd in ODD + ((), list(CABLE), ((), (0, 1))):
            for rest in (("west free", (1, 1), "east free", (1, 1)), ("loop", None, "loop", None), (odd,) * 4,
                         ("west free", None, "west free", None)):
                refused(self, "NoCable", one_leak, odd, *rest)
        for odd in NO_WORDS:
            for rest in (((1, 1), "east free", (1, 1)), (None, "east free", None), (odd, odd, odd), ((-1, 1), odd, (-1, 1))):
                refused(self, "NoWord", one_leak, CABLE, odd, *rest)
        for odd in NO_READINGS:
            for rest in (("east free", (1, 1)), ("west free", (1, 1)), ("loop", None), (odd, odd), (None, (1, 1))):
                refused(self, "NoReading", one_leak, CABLE, "west free", odd, *rest)

    def test_no_other_word_or_second_reading(self):
        for odd in NO_WORDS:
            for second in ((1, 1), (-1, 1), None, odd):
                refused(self, "NoWord", one_leak, CABLE, "west earth", (1, 1), odd, second)
        for word in WORDS:
            for second in ((1, 1), (2, 1), (-1, 1), None, True, []):
                refused(self, "NoWord", one_leak, CABLE, word, (1, 1), word, second)
        for word, other in TWOS:
            for odd in NO_READINGS:
                refused(self, "NoReading", one_leak, CABLE, word, (1, 1), other, odd)


class TakenForOne(unittest.TestCase):
    def test_not_west_of_all_nor_east_of_all(self):
        rand = chance(25)
        told_some = 0
        for _ in range(300):
            cable = some_cable(rand)
            # Through lesser drags than these more leaks than one are seldom taken for one.
            leaks = tuple((place, frac(all_drag(cable) * Fraction(rand.randint(1, 50), 10)))
                          for place, drag in some_leaks(rand, cable, rand.randint(1, 6)))
            free = [measure(cable, leaks, word) for word in WORDS[:2]]
            told = one_leak(cable, "west free", free[0], "east free", free[1])
            if told is not None:
                told_some += len(leaks) > 1
                self.assertLessEqual(num(leaks[0][0]), num(told[0]))
                self.assertLessEqual(num(told[0]), num(leaks[-1][0]))
        self.assertGreater(told_some, 100)


if __name__ == "__main__":
    unittest.main()
