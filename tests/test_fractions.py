import unittest
from fractions import Fraction
from math import gcd

from earthends.fractions import below, fraction, is_fraction, minus, over, plus, root, times
from helpers import ODD, chance, frac, is_told, num, refused

BIG = 10 ** 60 - 1


def samples():
    rand = chance(4)
    tops = [0, 1, -1, 2, -3, 12, 999, BIG, -BIG, rand.randint(-BIG, BIG), rand.randint(-BIG, BIG)]
    bottoms = [1, 2, 3, 6, 35, BIG, rand.randint(1, BIG), 10 ** 59]
    return sorted({frac(Fraction(top, bottom)) for top in tops for bottom in bottoms})


class Making(unittest.TestCase):
    def test_lowest_terms(self):
        for top, bottom, made in (
                (1, 2, (1, 2)), (2, 4, (1, 2)), (-2, 4, (-1, 2)), (2, -4, (-1, 2)), (-2, -4, (1, 2)),
                (0, 5, (0, 1)), (0, -5, (0, 1)), (6, 3, (2, 1)), (7, 1, (7, 1)), (7, -1, (-7, 1)),
                (BIG, BIG, (1, 1)), (-BIG, BIG, (-1, 1)), (BIG, -9, (-(BIG // 9), 1))):
            self.assertEqual(fraction(top, bottom), made)
            self.assertTrue(is_told(fraction(top, bottom)))

    def test_by_chance(self):
        rand = chance(1)
        for _ in range(300):
            size = rand.choice((5, 100, BIG))
            top, bottom = rand.randint(-size, size), rand.choice((-1, 1)) * rand.randint(1, size)
            self.assertEqual(fraction(top, bottom), frac(Fraction(top, bottom)))

    def test_refused(self):
        for odd in ODD:
            if type(odd) is not int:
                refused(self, "NoNumber", fraction, odd, 3)
                refused(self, "NoNumber", fraction, 3, odd)
                refused(self, "NoNumber", fraction, odd, odd)
        for top in (0, 1, -1, BIG):
            refused(self, "NoNumber", fraction, top, 0)
        for pair in ((True, 1), (1, True), (False, 1), (1, False), ((1, 2), 1), (1, (1, 2)), ((1, 1), (1, 1))):
            refused(self, "NoNumber", fraction, *pair)


class Telling(unittest.TestCase):
    def test_fractions(self):
        for x in samples():
            self.assertIs(is_fraction(x), True)

    def test_things_of_any_kind(self):
        for odd in ODD:
            self.assertIs(is_fraction(odd), False, odd)
        for odd in ((), (1,), (1, 2, 3), [1, 2], (1, [2]), (6, 4), (0, 3), (5, 5), (-9, 3), (1, -1), (1, 0), (BIG, 9),
                    (((1, 2), 3), 4), ("a",), "ab", (1, 1, 1), ((1, 1),), (True, 2), (3, True)):
            self.assertIs(is_fraction(odd), False, odd)

    def test_lowest_terms_by_chance(self):
        for top in range(-12, 13):
            for bottom in range(-12, 13):
                self.assertIs(is_fraction((top, bottom)), bottom >= 1 and gcd(top, bottom) == 1, (top, bottom))


class Reckoning(unittest.TestCase):
    def test_each_as_usual(self):
        for a in samples():
            for b in samples():
                x, y = num(a), num(b)
                told = [(plus(a, b), x + y), (minus(a, b), x - y), (times(a, b), x * y)]
                if y != 0:
                    told.append((over(a, b), x / y))
                for got, right in told:
                    self.assertEqual(got, frac(right))
                    self.assertTrue(is_told(got))
                self.assertIs(below(a, b), x < y)

    def test_small_ones(self):
        self.assertEqual(plus((1, 2), (1, 3)), (5, 6))
        self.assertEqual(minus((1, 3), (1, 2)), (-1, 6))
        self.assertEqual(minus((1, 3), (1, 3)), (0, 1))
        self.assertEqual(times((2, 3), (3, 4)), (1, 2))
        self.assertEqual(over((1, 2), (-3, 4)), (-2, 3))
        self.assertEqual(over((0, 1), (-3, 4)), (0, 1))
        self.assertIs(below((1, 3), (1, 2)), True)
        self.assertIs(below((1, 2), (1, 2)), False)
        self.assertIs(below((1, 2), (1, 3)), False)
        self.assertIs(below((-1, 2), (-1, 3)), True)

    def test_told_ones_may_be_handed_in_however_long(self):
        a = (BIG, BIG - 1)
        for _ in range(5):
            a = times(a, a)
        self.assertEqual(over(a, a), (1, 1))
        self.assertEqual(minus(plus(a, (1, 1)), a), (1, 1))

    def test_refused(self):
        for work in (plus, minus, times, over, below):
            for odd in ODD + ((),):
                refused(self, "NoNumber", work, odd, (1, 2))
                refused(self, "NoNumber", work, (1, 2), odd)
                refused(self, "NoNumber", work, odd, odd)

    def test_divided_by_nought(self):
        for a in samples():
            refused(self, "NoNumber", over, a, (0, 1))


class Roots(unittest.TestCase):
    def test_squares(self):
        for a in samples():
            square = times(a, a)
            self.assertEqual(root(square), frac(abs(num(a))))
            self.assertTrue(is_told(root(square)))

    def test_small_ones(self):
        squares = {k * k: k for k in range(40)}
        for top in range(0, 1500):
            right = (squares[top], 1) if top in squares else None
            self.assertEqual(root((top, 1)), right, top)

    def test_nought_and_below(self):
        self.assertEqual(root((0, 1)), (0, 1))
        for a in ((-1, 1), (-4, 1), (-1, 4), (-BIG, 1)):
            self.assertIsNone(root(a))

    def test_beside_squares(self):
        for k in (2, 3, 999, BIG, 10 ** 30, 2 ** 99, 2 ** 100):
            for beside in (k * k - 1, k * k + 1):
                self.assertIsNone(root((beside, 1)), beside)
                self.assertIsNone(root((1, beside)), beside)

    def test_top_or_bottom_alone(self):
        for a in ((4, 3), (3, 4), (1, 2), (2, 1), (9, 8), (8, 9), (2, 3), (1, BIG), (BIG, 4)):
            self.assertIsNone(root(a), a)
        self.assertEqual(root((9, 4)), (3, 2))
        self.assertEqual(root((1, 4)), (1, 2))

    def test_a_long_one_is_not_sought_number_by_number(self):
        long = (10 ** 400 + 1, 3 ** 500)
        self.assertEqual(root(times(long, long)), frac(num(long)))

    def test_refused(self):
        for odd in ODD + ((),):
            refused(self, "NoNumber", root, odd)


if __name__ == "__main__":
    unittest.main()
