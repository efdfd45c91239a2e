import unittest
from fractions import Fraction

from earthends.cables import drag_of, drag_to, is_cable, place_at, splices_of, steps_of
from helpers import (
    ODD, all_drag, all_steps, chance, frac, is_told, num, refused, replaced, some_cable, some_place, splice_steps,
    west_drag,
)

LENGTH = (10, (3, 2))
ONE = ((LENGTH,), (0, 1))
THREE = (((10, (3, 2)), (5, (2, 1)), (20, (1, 4))), (7, 3))
TWELVE = (((1, (1, 1)),) * 12, (999, 998))
CABLES = (ONE, THREE, TWELVE, (((999, (999, 1)), (1, (1, 999))), (1, 999)), (((1, (998, 999)),), (999, 1)))

BAD_NUMBERS = (True, False, None, "1", [1], (1,), (1, 1), {})
BAD_DRAGS = ((0, 1), (-1, 1), (-1, 2), (1000, 1), (1, 1000), (1000, 999), (999, 1000), (2, 4), (999, 999), (1, 0), (1, -1),
             [1, 2], (1,), (1, 2, 3), 1, True, None, "1", (True, 1), (1, True), (1, (1, 1)))


def lists_within(cable):
    yield list(cable)
    yield (list(cable[0]), cable[1])
    yield (cable[0], list(cable[1]))
    for at, (steps, each) in enumerate(cable[0]):
        yield (replaced(cable[0], at, [steps, each]), cable[1])
        yield (replaced(cable[0], at, (steps, list(each))), cable[1])


class What(unittest.TestCase):
    def test_cables(self):
        for cable in CABLES:
            self.assertIs(is_cable(cable), True, cable)

    def test_things_of_any_kind(self):
        for odd in ODD + ((),):
            self.assertIs(is_cable(odd), False, odd)
            self.assertIs(is_cable((odd, (0, 1))), False, odd)
            self.assertIs(is_cable(((odd,), (0, 1))), False, odd)
            self.assertIs(is_cable(((LENGTH, odd), (0, 1))), False, odd)
            self.assertIs(is_cable((((1, odd),), (0, 1))), False, odd)
            self.assertIs(is_cable(((LENGTH,), odd)), False, odd)
            if type(odd) is not int or not 1 <= odd <= 999:
                self.assertIs(is_cable((((odd, (1, 1)),), (0, 1))), False, odd)

    def test_how_many_lengths(self):
        for many in range(15):
            self.assertIs(is_cable(((LENGTH,) * many, (0, 1))), 1 <= many <= 12, many)

    def test_steps(self):
        for steps, right in ((-1, False), (0, False), (1, True), (999, True), (1000, False), (10 ** 60, False)):
            self.assertIs(is_cable((((steps, (1, 1)),), (0, 1))), right, steps)
            self.assertIs(is_cable((((5, (1, 1)), (steps, (1, 1))), (0, 1))), right, steps)
        for steps in BAD_NUMBERS:
            self.assertIs(is_cable((((steps, (1, 1)),), (0, 1))), False, steps)

    def test_drag(self):
        for each in ((1, 999), (999, 1), (998, 999), (999, 998), (1, 1)):
            self.assertIs(is_cable((((5, each),), (0, 1))), True, each)
        for each in BAD_DRAGS:
            self.assertIs(is_cable((((5, each),), (0, 1))), False, each)
            self.assertIs(is_cable((((5, (1, 1)), (5, each)), (0, 1))), False, each)

    def test_back(self):
        for back in ((0, 1), (1, 999), (999, 1), (998, 999)):
            self.assertIs(is_cable(((LENGTH,), back)), True, back)
        for back in BAD_DRAGS + ((0, 2), (0, True), (False, 1)):
            if back != (0, 1):
                self.assertIs(is_cable(((LENGTH,), back)), False, back)

    def test_a_list_in_the_place_of_each_tuple(self):
        for cable in (ONE, THREE):
            for x in lists_within(cable):
                self.assertIs(is_cable(x), False, x)

    def test_a_truth_in_the_place_of_each_number(self):
        for truth in (True, False):
            for x in (
                    (((truth, (1, 1)),), (0, 1)), (((1, (truth, 1)),), (0, 1)), (((1, (1, truth)),), (0, 1)),
                    (((1, (1, 1)),), (truth, 1)), (((1, (1, 1)),), (0, truth))):
                self.assertIs(is_cable(x), False, x)

    def test_parts_too_few_and_too_many(self):
        for x in ((), ((LENGTH,),), ((LENGTH,), (0, 1), (0, 1)), (LENGTH, (0, 1)), (((5,),), (0, 1)),
                  (((5, (1, 1), 1),), (0, 1)), (((),), (0, 1)), (((5, (1,)),), (0, 1)), (((5, (1, 1, 1)),), (0, 1)),
                  ((LENGTH,), ()), ((LENGTH,), (0,)), ((LENGTH,), (0, 1, 1))):
            self.assertIs(is_cable(x), False, x)

    def test_by_chance(self):
        rand = chance(5)
        for _ in range(50):
            self.assertIs(is_cable(some_cable(rand)), True)


class Numbers(unittest.TestCase):
    def test_of_three(self):
        self.assertEqual(steps_of(THREE), 35)
        self.assertEqual(drag_of(THREE), (30, 1))
        self.assertEqual(splices_of(THREE), (10, 15))

    def test_of_one(self):
        self.assertEqual(steps_of(ONE), 10)
        self.assertEqual(drag_of(ONE), (15, 1))
        self.assertEqual(splices_of(ONE), ())

    def test_by_chance(self):
        rand = chance(6)
        for cable in [some_cable(rand) for _ in range(50)] + list(CABLES):
            self.assertEqual(steps_of(cable), all_steps(cable))
            self.assertIs(type(steps_of(cable)), int)
            self.assertEqual(drag_of(cable), frac(all_drag(cable)))
            self.assertTrue(is_told(drag_of(cable)))
            self.assertEqual(splices_of(cable), tuple(splice_steps(cable)))

    def test_refused(self):
        for work in (steps_of, drag_of, splices_of):
            for odd in ODD + ((), ((), (0, 1)), ((LENGTH,) * 13, (0, 1)), list(ONE), ((list(LENGTH),), (0, 1))):
                refused(self, "NoCable", work, odd)


class Places(unittest.TestCase):
    def test_of_three(self):
        for place, drag in (((0, 1), (0, 1)), ((5, 1), (15, 2)), ((10, 1), (15, 1)), ((21, 2), (16, 1)), ((15, 1), (25, 1)),
                            ((16, 1), (101, 4)), ((35, 1), (30, 1))):
            self.assertEqual(drag_to(THREE, place), drag)
            self.assertEqual(place_at(THREE, drag), place)

    def test_both_ends_and_splices(self):
        rand = chance(7)
        for cable in [some_cable(rand) for _ in range(20)] + list(CABLES):
            for steps in [0, all_steps(cable)] + splice_steps(cable):
                drag = frac(west_drag(cable, steps))
                self.assertEqual(drag_to(cable, (steps, 1)), drag)
                self.assertEqual(place_at(cable, drag), (steps, 1))

    def test_between_and_back(self):
        rand = chance(8)
        for _ in range(200):
            cable = some_cable(rand)
            place = some_place(rand, cable)
            drag = drag_to(cable, place)
            self.assertEqual(drag, frac(west_drag(cable, num(place))))
            self.assertTrue(is_told(drag))
            self.assertEqual(place_at(cable, drag), place)
            part = frac(all_drag(cable) * Fraction(rand.randint(0, 10 ** 50), 10 ** 50))
            self.assertTrue(is_told(place_at(cable, part)))
            self.assertEqual(drag_to(cable, place_at(cable, part)), part)

    def test_no_place(self):
        for place in ((-1, 1), (-1, 10 ** 59), (36, 1), (35 * 10 ** 50 + 1, 10 ** 50), (10 ** 60, 1), [5, 1], 5) + ODD + ((),):
            refused(self, "NoPlace", drag_to, THREE, place)

    def test_no_drag(self):
        for drag in ((-1, 1), (-1, 10 ** 59), (31, 1), (30 * 10 ** 50 + 1, 10 ** 50), (10 ** 60, 1), [5, 1], 5) + ODD + ((),):
            refused(self, "NoDrag", place_at, THREE, drag)

    def test_no_cable_comes_first(self):
        for odd in ODD + ((),):
            for other in ((0, 1), (-1, 1), (10 ** 6, 1), None, True, [], "x"):
                refused(self, "NoCable", drag_to, odd, other)
                refused(self, "NoCable", place_at, odd, other)


if __name__ == "__main__":
    unittest.main()
