import unittest
from fractions import Fraction

from earthends.stretches import is_stretch, joined, stretch_of
from helpers import (
    ODD, all_drag, all_steps, chance, frac, is_told, num, refused, replaced, some_cable, some_leaks, splice_steps, west_drag,
)

CABLE = (((10, (3, 2)), (5, (2, 1)), (20, (1, 4))), (7, 3))
ZERO = (0, 1)


def piece(drag):
    return (frac(drag), None)


def leak(drag):
    return (ZERO, (ZERO, ZERO, frac(drag)))


def lack(stretch):
    drag, (west, east, earth) = stretch
    return num(drag) - num(west) - num(east)


def some_stretch(rand):
    """A stretch with whatever numbers, seeing earth or not."""
    if rand.random() < 0.3:
        return piece(Fraction(rand.randint(0, 20), rand.randint(1, 5)))
    west, east = (Fraction(rand.randint(0, 20), rand.randint(1, 5)) for _ in range(2))
    earth = Fraction(rand.randint(1, 20), rand.randint(1, 5))
    missing = west * east / earth * rand.choice((0, 1, Fraction(1, 2), Fraction(rand.randint(0, 99), 99)))
    return (frac(west + east + missing), (frac(west), frac(east), frac(earth)))


def by_hand(one, other):
    """Two stretches joined by the words of the document, in numbers of Python."""
    drag = num(one[0]) + num(other[0])
    if one[1] is None and other[1] is None:
        return (frac(drag), None)
    if one[1] is None:
        west, east, earth = map(num, other[1])
        seen = (west + num(one[0]), east, earth)
    elif other[1] is None:
        west, east, earth = map(num, one[1])
        seen = (west, east + num(other[0]), earth)
    else:
        (west, s_one, e_one), (s_other, east, e_other) = map(num, one[1]), map(num, other[1])
        s = s_one + s_other
        d = e_one + e_other + s
        seen = (west + e_one * s / d, east + e_other * s / d, e_one * e_other / d)
    return (frac(drag), tuple(frac(x) for x in seen))


class What(unittest.TestCase):
    def test_no_earth_seen(self):
        for drag in ((0, 1), (1, 2), (10 ** 59, 1)):
            self.assertIs(is_stretch((drag, None)), True)
        for drag in ((-1, 1), (-1, 10 ** 59)) + ODD + ((),):
            self.assertIs(is_stretch((drag, None)), False, drag)

    def test_lack_nought_and_below(self):
        self.assertIs(is_stretch(((5, 1), ((2, 1), (3, 1), (1, 1)))), True)
        self.assertIs(is_stretch(((5, 1), ((5, 1), (0, 1), (1, 1)))), True)
        self.assertIs(is_stretch(((5, 1), ((0, 1), (5, 1), (1, 1)))), True)
        self.assertIs(is_stretch(((0, 1), ((0, 1), (0, 1), (1, 1)))), True)
        self.assertIs(is_stretch(((5, 1), ((2, 1), (7, 2), (1, 1)))), False)
        self.assertIs(is_stretch(((5, 1), ((2, 1), (3 * 10 ** 50 + 1, 10 ** 50), (1, 1)))), False)
        self.assertIs(is_stretch(((0, 1), ((0, 1), (1, 1), (1, 1)))), False)

    def test_earth_times_lack(self):
        # WEST 2, EAST 3, EARTH 4: LACK may be 3/2 at most.
        seen = ((2, 1), (3, 1), (4, 1))
        self.assertIs(is_stretch(((6, 1), seen)), True)
        self.assertIs(is_stretch(((13, 2), seen)), True)
        self.assertIs(is_stretch(((13 * 10 ** 50 + 1, 2 * 10 ** 50), seen)), False)
        self.assertIs(is_stretch(((7, 1), seen)), False)
        self.assertIs(is_stretch(((1, 10 ** 59), ((0, 1), (0, 1), (1, 1)))), False)
        self.assertIs(is_stretch(((6, 1), ((5, 1), (0, 1), (1, 10 ** 59)))), False)

    def test_bounds_of_the_three(self):
        self.assertIs(is_stretch(((5, 1), ((2, 1), (3, 1), (0, 1)))), False)
        self.assertIs(is_stretch(((5, 1), ((2, 1), (3, 1), (-1, 1)))), False)
        self.assertIs(is_stretch(((5, 1), ((-1, 1), (6, 1), (1, 1)))), False)
        self.assertIs(is_stretch(((5, 1), ((6, 1), (-1, 1), (1, 1)))), False)
        self.assertIs(is_stretch(((-5, 1), ((-2, 1), (-3, 1), (1, 1)))), False)
        self.assertIs(is_stretch(((-3, 1), ((-2, 1), (-2, 1), (1, 1)))), False)

    def test_things_of_any_kind(self):
        good = ((5, 1), ((2, 1), (3, 1), (1, 1)))
        self.assertIs(is_stretch(good), True)
        for odd in ODD + ((),):
            self.assertIs(is_stretch(odd), False, odd)
            self.assertIs(is_stretch((odd, good[1])), False, odd)
            if odd is not None:
                self.assertIs(is_stretch((good[0], odd)), False, odd)
            for at in range(3):
                self.assertIs(is_stretch((good[0], replaced(good[1], at, odd))), False, odd)
        for x in (list(good), (list(good[0]), good[1]), (good[0], list(good[1])), (good[0],), (*good, None), good[0], good[1],
                  (good[0], good[1][:2]), (good[0], good[1] + ((1, 1),)), [(5, 1), None], ((True, 1), None), ((5, True), None),
                  (None, None), (good[0], ()), (None, good[1]), (good[0], ((2, 1), (3, 1), [1, 1])),
                  ((True, 1), ((True, 1), (False, 1), (True, 1)))):
            self.assertIs(is_stretch(x), False, x)


class Joined(unittest.TestCase):
    def test_none_one_and_both(self):
        self.assertEqual(joined(piece(2), piece(3)), ((5, 1), None))
        self.assertEqual(joined(piece(2), leak(7)), ((2, 1), ((2, 1), (0, 1), (7, 1))))
        self.assertEqual(joined(leak(7), piece(2)), ((2, 1), ((0, 1), (2, 1), (7, 1))))
        self.assertEqual(joined(leak(2), leak(2)), ((0, 1), ((0, 1), (0, 1), (1, 1))))
        # S 5, D 10: 2 and 2 * 5 / 10, 4 and 3 * 5 / 10, 2 * 3 / 10.
        west = ((5, 1), ((2, 1), (3, 1), (2, 1)))
        east = ((6, 1), ((2, 1), (4, 1), (3, 1)))
        self.assertEqual(joined(west, east), ((11, 1), ((3, 1), (11, 2), (3, 5))))

    def test_by_the_words(self):
        rand = chance(12)
        for _ in range(400):
            one, other = some_stretch(rand), some_stretch(rand)
            self.assertIs(is_stretch(one), True)
            both = joined(one, other)
            self.assertEqual(both, by_hand(one, other))
            self.assertIs(is_stretch(both), True)
            self.assertTrue(is_told(both[0]) and (both[1] is None or all(map(is_told, both[1]))))

    def test_brackets(self):
        rand = chance(13)
        for _ in range(150):
            a, b, c, d = (some_stretch(rand) for _ in range(4))
            told = joined(joined(joined(a, b), c), d)
            self.assertEqual(joined(a, joined(b, joined(c, d))), told)
            self.assertEqual(joined(joined(a, b), joined(c, d)), told)
            self.assertEqual(joined(a, joined(joined(b, c), d)), told)
            self.assertEqual(joined(joined(a, joined(b, c)), d), told)

    def test_refused(self):
        good = ((5, 1), ((2, 1), (3, 1), (1, 1)))
        for odd in ODD + ((), ((4, 1), good[1]), ((-1, 1), None), ((5, 1), ((2, 1), (3, 1), (0, 1))), list(good)):
            refused(self, "NoStretch", joined, odd, good)
            refused(self, "NoStretch", joined, good, odd)
            refused(self, "NoStretch", joined, odd, odd)
            refused(self, "NoStretch", joined, piece(1), odd)


class OfCables(unittest.TestCase):
    def test_no_leaks(self):
        self.assertEqual(stretch_of(CABLE, ()), ((30, 1), None))

    def test_one(self):
        for place, west in (((0, 1), 0), ((10, 1), 15), ((21, 2), 16), ((15, 1), 25), ((35, 1), 30)):
            seen = (frac(west), frac(30 - west), (4, 3))
            self.assertEqual(stretch_of(CABLE, ((place, (4, 3)),)), ((30, 1), seen))

    def test_two(self):
        # At both splices, 15 and 25 of 30: S 10, D 20.
        told = stretch_of(CABLE, (((10, 1), (4, 1)), ((15, 1), (6, 1))))
        self.assertEqual(told, ((30, 1), ((17, 1), (8, 1), (6, 5))))
        # At both ends.
        told = stretch_of(CABLE, (((0, 1), (4, 1)), ((35, 1), (6, 1))))
        self.assertEqual(told, ((30, 1), ((3, 1), (9, 2), (3, 5))))

    def test_joined_from_pieces_at_splices_and_leaks(self):
        rand = chance(14)
        for _ in range(150):
            cable = some_cable(rand)
            leaks = some_leaks(rand, cable, rand.randint(0, 6))
            marks = sorted([(Fraction(k), None) for k in [0, all_steps(cable)] + splice_steps(cable)]
                           + [(num(place), drag) for place, drag in leaks], key=lambda mark: mark[0])
            told, ahead = piece(0), Fraction(0)
            for place, drag in marks:
                here = west_drag(cable, place)
                told = by_hand(told, piece(here - ahead))
                ahead = here
                if drag is not None:
                    told = by_hand(told, leak(num(drag)))
            self.assertEqual(stretch_of(cable, leaks), told)

    def test_it_is_a_stretch_and_where_its_lack_is_nought(self):
        rand = chance(15)
        for _ in range(150):
            cable = some_cable(rand)
            leaks = some_leaks(rand, cable, rand.randint(0, 6))
            told = stretch_of(cable, leaks)
            self.assertIs(is_stretch(told), True)
            self.assertEqual(told[0], frac(all_drag(cable)))
            self.assertEqual(told[1] is None, len(leaks) == 0)
            if leaks:
                self.assertEqual(lack(told) == 0, len(leaks) == 1)

    def test_refused(self):
        for odd in ODD + ((), list(CABLE), ((), (0, 1))):
            for leaks in ((), odd, None, (((0, 1), (1, 1)),), [], True):
                refused(self, "NoCable", stretch_of, odd, leaks)
        for odd in ODD + ([], (((36, 1), (1, 1)),), (((0, 1), (0, 1)),), (((1, 1), (1, 1)), ((1, 1), (1, 1)))):
            refused(self, "NoLeaks", stretch_of, CABLE, odd)


if __name__ == "__main__":
    unittest.main()
