import unittest

from earthends.leaks import is_leaks
from helpers import ODD, chance, replaced, some_cable, some_leaks

CABLE = (((10, (3, 2)), (5, (2, 1)), (20, (1, 4))), (7, 3))
SIX = tuple(((k * 7, 1), (1, 1)) for k in range(6))


class What(unittest.TestCase):
    def is_not(self, x):
        self.assertIs(is_leaks(CABLE, x), False, x)

    def test_how_many(self):
        places = [(k, 1) for k in range(10)]
        for many in range(10):
            leaks = tuple((place, (1, 1)) for place in places[:many])
            self.assertIs(is_leaks(CABLE, leaks), many <= 6, many)

    def test_ends_splices_and_between(self):
        for place in ((0, 1), (35, 1), (10, 1), (15, 1), (1, 10 ** 59), (21, 2), (35 * 10 ** 50 - 1, 10 ** 50)):
            self.assertIs(is_leaks(CABLE, ((place, (1, 1)),)), True, place)
        self.assertIs(is_leaks(CABLE, SIX), True)
        self.assertIs(is_leaks(CABLE, (((1, 3), (1, 1)), ((1, 2), (1, 1)), ((2, 3), (1, 1)))), True)

    def test_outside(self):
        for place in ((-1, 1), (-1, 10 ** 59), (36, 1), (35 * 10 ** 50 + 1, 10 ** 50), (10 ** 40, 1)):
            self.is_not(((place, (1, 1)),))
            self.is_not((((1, 1), (1, 1)), (place, (1, 1))))

    def test_two_at_one_place_and_falling(self):
        self.is_not((((1, 2), (1, 1)), ((1, 2), (1, 1))))
        self.is_not((((1, 2), (1, 1)), ((1, 2), (2, 1))))
        self.is_not((((1, 2), (1, 1)), ((1, 3), (1, 1))))
        self.is_not((((2, 1), (1, 1)), ((3, 2), (1, 1)), ((3, 1), (1, 1))))
        self.is_not((((1, 1), (1, 1)), ((3, 1), (1, 1)), ((3, 1), (1, 1))))
        self.is_not(SIX[::-1])

    def test_drags(self):
        for drag in ((1, 1), (1, 10 ** 40 - 1), (10 ** 40 - 1, 1), (10 ** 40 - 1, 10 ** 39), (1000, 1)):
            self.assertIs(is_leaks(CABLE, (((1, 1), drag),)), True, drag)
        for drag in ((0, 1), (-1, 1), (-1, 2), (2, 4), (0, 2), (1, 0), (1, -1), [1, 1], 1, None, True, (True, 1), (1, True), (1,)):
            self.is_not((((1, 1), drag),))
            self.is_not((((0, 1), (1, 1)), ((1, 1), drag)))

    def test_lists_and_other_numbers_of_parts(self):
        leak = SIX[1]
        for x in ([], [leak], list(SIX), ([*leak],), ((list(leak[0]), leak[1]),), ((leak[0], list(leak[1])),), leak, ((),),
                  ((leak[0],),), ((*leak, leak[1]),), (leak, ()), (leak, None), (None,), ((leak,),), (((1,), (1, 1)),),
                  (((1, 1, 1), (1, 1)),), (((1, 1), (1, 1, 1)),)):
            self.is_not(x)

    def test_things_of_any_kind(self):
        for odd in ODD:
            self.is_not(odd)
            if odd == ((1, 1), (1, 1)):
                continue
            self.is_not((odd,))
            self.is_not(((odd, (1, 1)),))
            self.is_not((((1, 1), odd),))
            for at in range(6):
                self.is_not(replaced(SIX, at, odd))
                self.is_not(replaced(SIX, at, (odd, (1, 1))))
                self.is_not(replaced(SIX, at, (SIX[at][0], odd)))

    def test_what_is_no_cable(self):
        for odd in ODD + ((), list(CABLE), ((), (0, 1)), (CABLE[0] * 5, (0, 1))):
            for leaks in ((), SIX, odd, None, [], (SIX[0],)):
                self.assertIs(is_leaks(odd, leaks), False, (odd, leaks))

    def test_by_chance(self):
        rand = chance(11)
        for _ in range(100):
            cable = some_cable(rand)
            leaks = some_leaks(rand, cable, rand.randint(0, 6))
            self.assertIs(is_leaks(cable, leaks), True)
            self.assertIs(is_leaks(cable, leaks[::-1]), len(leaks) < 2)
            self.assertIs(is_leaks(cable, leaks + leaks[:1]), len(leaks) == 0)


if __name__ == "__main__":
    unittest.main()
