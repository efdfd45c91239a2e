import unittest
from fractions import Fraction
from math import isqrt

from earthends.days import day_of, kind_of
from earthends.tellings import clash_of, drags_by, telling
from helpers import (
    CABLE, LEAKING, NO_CABLES, NO_DAYS, NOT_OF_TWO, ODD, WRONG_DAYS, Curve, all_drag, all_steps, chance, day_by, frac, num,
    place_of, refused, small_cable, small_leaks, some_place, sound_day, west_drag,
)

EVEN = (((10, (1, 1)),) * 3, (2, 1))
SOUND = sound_day(EVEN)
LITTLE = Fraction(1, 10 ** 30)


def one(place, drag):
    """A day of one leak of EVEN."""
    return day_by(EVEN, place, 30 - Fraction(place), drag)


def two(west, drag, east, other):
    """A day of two leaks of EVEN."""
    return day_of(EVEN, ((frac(west), frac(drag)), (frac(east), frac(other))))


def solved(rows):
    """The numbers by as many equations, each row the factors and what they make."""
    rows = [list(map(Fraction, row)) for row in rows]
    for at in range(len(rows)):
        pivot = next(k for k in range(at, len(rows)) if rows[k][at] != 0)
        rows[at], rows[pivot] = rows[pivot], rows[at]
        rows[at] = [part / rows[at][at] for part in rows[at]]
        for k in range(len(rows)):
            if k != at:
                rows[k] = [part - rows[k][at] * own for part, own in zip(rows[k], rows[at])]
    return [row[-1] for row in rows]


def day_through(cable, points):
    """The day of two of three pairs (x, y), x the drag west of the west leak, y that east of the east one."""
    # (W - x) (E - y) = c, with K = W E - c.
    rest, west, east = solved([(1, -y, -x, -x * y) for x, y in points])
    share = west * east - rest
    day = day_by(cable, west, east, share / (all_drag(cable) - west - east))
    assert kind_of(cable, day) == ("two",)
    for x, y in points:
        assert Curve(cable, day).far(Fraction(x)) == all_drag(cable) - y
    return day


def places_of(cable, x, y):
    return (frac(place_of(cable, Fraction(x))), frac(place_of(cable, all_drag(cable) - y)))


def square_root(f):
    if f < 0 or isqrt(f.numerator) ** 2 != f.numerator or isqrt(f.denominator) ** 2 != f.denominator:
        return None
    return Fraction(isqrt(f.numerator), isqrt(f.denominator))


def crossing_places(cable, day, other):
    """The pairs of places on both curves, by the polynomial that is 0 there, put together from three of its values."""
    a, b = Curve(cable, day), Curve(cable, other)

    def off(x):
        return (b.west - x) * ((b.east - a.east) * (a.west - x) + a.share) - b.share * (a.west - x)

    free, single, square = solved([(1, x, x * x, off(x)) for x in range(3)])
    if square == 0:
        roots = [] if single == 0 else [-free / single]
    else:
        spread = square_root(single * single - 4 * square * free)
        roots = [] if spread is None else [(-single + spread) / (2 * square), (-single - spread) / (2 * square)]
    return [tuple(map(frac, a.places(x))) for x in roots if 0 <= x <= a.greatest]


def fits(cable, day, places):
    """Whether drags of some of these places make a day, by the kind of the day and the curve."""
    kind = kind_of(cable, day)
    if kind[0] == "two":
        if len(places) < 2:
            return False
        curve = Curve(cable, day)
        x, far = (west_drag(cable, num(place)) for place in places)
        return curve.west > x and curve.east > curve.whole - far and (
            (curve.west - x) * (curve.east - curve.whole + far) == curve.share)
    return kind == ("sound",) or kind[0] == "one" and kind[1][0] in places


def telling_by_hand(cable, days):
    kinds = [kind_of(cable, day) for day in days]
    leaking = [day for day, kind in zip(days, kinds) if kind != ("sound",)]
    if not leaking:
        return ("sound",)
    singles = sorted({num(kind[1][0]) for kind in kinds if kind[0] == "one"})
    for place in singles:
        if all(fits(cable, day, (frac(place),)) for day in days):
            return ("one", frac(place))
    if len(set(leaking)) == 1 and kind_of(cable, leaking[0]) == ("two",):
        return ("curve", days.index(leaking[0]))
    tried = {(frac(a), frac(b)) for a in singles for b in singles if a < b}
    curves = [day for day, kind in zip(days, kinds) if kind == ("two",)]
    for day in curves[:1]:
        curve = Curve(cable, day)
        for place in singles:
            drag = west_drag(cable, place)
            if drag <= curve.greatest:
                tried.add(tuple(map(frac, curve.places(drag))))
            if drag >= curve.least_far:
                tried.add(tuple(map(frac, curve.places(curve.near(drag)))))
        for other in curves:
            if other != day:
                tried.update(crossing_places(cable, day, other))
    pairs = [pair for pair in tried if all(fits(cable, day, pair) for day in days)]
    return ("pairs", tuple(sorted(pairs, key=lambda pair: list(map(num, pair))))) if pairs else ("clash",)


def clash_by_hand(cable, days):
    left = list(range(len(days)))
    if telling_by_hand(cable, days) != ("clash",):
        return ()
    for number in range(len(days) - 1, -1, -1):
        fewer = [at for at in left if at != number]
        if telling_by_hand(cable, tuple(days[at] for at in fewer)) == ("clash",):
            left = fewer
    return tuple(left)


# Pairs (x, y) on the curve with WEST 14, EAST 14 and 20, but for a little at the last.
POINTS = [(x, 14 - Fraction(20, 14 - x)) for x in (0, 4, 9)] + [(Fraction(12), Fraction(39, 10))]


class Telling(unittest.TestCase):
    def told(self, days, cable=EVEN):
        told = telling(cable, tuple(days))
        self.assertEqual(told, telling_by_hand(cable, tuple(days)))
        return told

    def test_sound(self):
        for many in (0, 1, 2, 12):
            self.assertEqual(self.told([SOUND] * many), ("sound",))

    def test_one(self):
        self.assertEqual(self.told([one(7, 3)]), ("one", (7, 1)))
        self.assertEqual(self.told([SOUND, one(7, 3), SOUND, one(7, 4), one(7, 3)]), ("one", (7, 1)))
        for place in (0, 10, 30, Fraction(1, 3)):
            self.assertEqual(self.told([one(place, 1), one(place, 10 ** 40)]), ("one", frac(place)))

    def test_curve(self):
        day = two(4, 3, 22, 5)
        self.assertEqual(self.told([day]), ("curve", 0))
        self.assertEqual(self.told([day] * 12), ("curve", 0))
        self.assertEqual(self.told([SOUND, SOUND, day, SOUND, day]), ("curve", 2))
        self.assertEqual(self.told([SOUND] * 11 + [day]), ("curve", 11))
        alike = day_by(EVEN, 12, 8, Fraction(48, 5))
        self.assertEqual(self.told([alike, alike]), ("curve", 0))

    def test_two_unlike_days_of_one_pair(self):
        pair = ((4, 1), (22, 1))
        self.assertEqual(self.told([two(4, 3, 22, 5), two(4, 5, 22, 3)]), ("pairs", (pair,)))
        # With WEST alike; with EAST alike.
        one_day = day_through(EVEN, POINTS[:3])
        curve = Curve(EVEN, one_day)
        for west, east in ((0, 1), (1, 0)):
            x, y = POINTS[1]
            share = (curve.west + west - x) * (curve.east + east - y)
            lack = 30 - curve.west - west - curve.east - east
            other = day_by(EVEN, curve.west + west, curve.east + east, share / lack)
            self.assertIn(places_of(EVEN, x, y), self.told([one_day, other])[1])

    def test_curves_that_only_touch(self):
        # There both curves go the same way, as what remains of WEST and EAST is so many times as much on the other day.
        day = day_by(EVEN, 10, 16, Fraction(3))
        x, curve = Fraction(4), Curve(EVEN, day)
        west, east = curve.west - x, curve.share / (curve.west - x)
        for more in (Fraction(9, 8), Fraction(7, 8), 1 + LITTLE):
            new_west, new_east = x + more * west, curve.east - east + more * east
            share = more * more * west * east
            other = day_by(EVEN, new_west, new_east, share / (30 - new_west - new_east))
            self.assertEqual(self.told([day, other]), ("pairs", (places_of(EVEN, x, curve.east - east),)))

    def test_places_that_fit_in_two_ways(self):
        # Days through two pairs and a third point each, that no two of them share.
        first, second = POINTS[0], POINTS[2]
        days = [day_through(EVEN, [first, second, (4, 14 - Fraction(20, 10) + aside)]) for aside in
                (0, Fraction(1, 7), -Fraction(1, 20))]
        pairs = (places_of(EVEN, *first), places_of(EVEN, *second))
        self.assertEqual(self.told(days[:2]), ("pairs", pairs))
        self.assertEqual(self.told(days[::-1]), ("pairs", pairs))
        self.assertEqual(self.told([SOUND] + days + [SOUND] + days), ("pairs", pairs))
        # A day of one at a place of one pair alone leaves this one.
        for at in range(2):
            for place in pairs[at]:
                self.assertEqual(self.told(days + [one(num(place), 5)]), ("pairs", pairs[at:at + 1]))
        self.assertEqual(self.told(days + [one(num(pairs[0][0]), 5), one(num(pairs[1][1]), 5)]), ("clash",))

    def test_days_of_one_and_of_two(self):
        pair = ((4, 1), (22, 1))
        day = two(4, 3, 22, 5)
        for place in (4, 22):
            self.assertIn(pair, self.told([day, one(place, 2)])[1])
            self.assertIn(pair, self.told([one(place, 2), SOUND, day, one(place, 9)])[1])
        self.assertEqual(self.told([one(22, 1), one(4, 2), day]), ("pairs", (pair,)))
        self.assertEqual(self.told([one(22, 1), one(4, 2)]), ("pairs", (pair,)))
        self.assertEqual(self.told([one(4, 1), SOUND, one(22, 2), one(4, 7)]), ("pairs", (pair,)))

    def test_a_place_in_a_span_or_between_them(self):
        # The spans are 0 to 13 and 17 to 30.
        day = day_by(EVEN, 14, 14, 7)
        for place in (0, 5, 13, 17, 25, 30):
            self.assertEqual(len(self.told([day, one(place, 2)])[1]), 1)
        for place in (Fraction(13) + LITTLE, 15, 17 - LITTLE):
            self.assertEqual(self.told([day, one(place, 2)]), ("clash",))

    def test_clash(self):
        day = two(4, 3, 22, 5)
        for days in ([one(4, 1), one(5, 1), one(6, 1)], [day, one(4, 1), one(5, 1)], [day, two(4, 3, 23, 5), two(5, 3, 22, 5)],
                     [day, one(4, 1), one(23, 1)], [one(4, 1), one(22, 1), two(4, 1, 23, 1)]):
            self.assertEqual(self.told(days), ("clash",))
        # They would share the pair with the west leak at 14 less half of 1 and the root of 161: no fraction, so no place.
        self.assertEqual(self.told([day_by(EVEN, 14, 14, 10), day_by(EVEN, 13, Fraction(29, 2), 8)]), ("clash",))

    def test_a_wrong_day(self):
        for day in (SOUND, one(4, 1), two(4, 3, 22, 5)):
            for wrong in ((None, None, (1, 1)), day_by(EVEN, 20, 20, 1), day_by(EVEN, 14, 14, 99), day_by(EVEN, 14, 14, 0)):
                self.assertEqual(self.told([day, wrong, day]), ("clash",))
                self.assertEqual(self.told([wrong]), ("clash",))

    def test_days_by_chance(self):
        rand = chance(81)
        seen = {}
        for cable, days in some_days(rand, 400):
            told = self.told(days, cable)
            key = (told[0], len(told[1])) if told[0] == "pairs" else told[0]
            seen[key] = seen.get(key, 0) + 1
        for key in ("sound", "one", "curve", ("pairs", 1), ("pairs", 2), "clash"):
            self.assertGreater(seen.get(key, 0), 5, seen)

    def test_refused(self):
        for function in (telling, clash_of):
            for odd in NO_CABLES:
                for days in ((), (SOUND,), None, [], odd):
                    refused(self, "NoCable", function, odd, days)
            for odd in NO_DAYS:
                if odd not in ((), (LEAKING,)):
                    refused(self, "NoDays", function, CABLE, odd)
                for days in ((odd,), (SOUND, odd), (odd, SOUND), [SOUND, odd]):
                    refused(self, "NoDays", function, CABLE, days)
            for days in ([], [SOUND], (SOUND,) * 13, SOUND, one(4, 1), (WRONG_DAYS[0],) * 13, {}, {SOUND: 1}, frozenset([SOUND])):
                refused(self, "NoDays", function, CABLE, days)


def some_days(rand, many):
    """Cables, and days of leaks at two places or four, with others mixed in now and then."""
    for _ in range(many):
        cable = small_cable(rand, rand.randint(1, 4))
        whole = all_drag(cable)
        pairs = [[place for place, drag in small_leaks(rand, cable, 2)] for _ in range(2)]
        asides = rand.choice((0, 0, 0.1, 0.4))
        days = []
        for _ in range(rand.choice((0, 1, 2, 3, 4, 6, 12))):
            places = pairs[rand.random() < asides]
            drags = [drag for place, drag in small_leaks(rand, cable, 2)]
            leaks = [leak for leak in zip(places, drags) if rand.random() < rand.choice((0.1, 0.7, 1))]
            days.append(day_of(cable, tuple(leaks)))
            if rand.random() < asides / 4:
                days[-1] = tuple(frac(whole * Fraction(rand.randint(1, 60), 40)) for _ in range(3))
            if rand.random() < 0.3:
                days.append(rand.choice(days))
        yield cable, tuple(days[:12])
        if rand.random() < 0.2 and len(cable[0]) > 1:
            yield cable, tuple(days_of_two_pairs(rand, cable))


def days_of_two_pairs(rand, cable):
    """Days through the same two pairs, some through one of them alone."""
    whole = all_drag(cable)
    west, east, share = whole * Fraction(2, 5), whole * Fraction(9, 20), whole * whole / 25
    last = west - share / east
    xs = [last * Fraction(k, 12) for k in sorted(rand.sample(range(13), 3))]
    points = [(x, east - share / (west - x)) for x in xs]
    for _ in range(rand.randint(2, 4)):
        kept = list(points)
        kept[1] = (xs[1], points[1][1] + whole * Fraction(rand.randint(0, 9), 20000))
        yield day_through(cable, kept)


class Clash(unittest.TestCase):
    def told(self, days, cable=EVEN):
        told = clash_of(cable, tuple(days))
        self.assertEqual(told, clash_by_hand(cable, tuple(days)))
        self.assertLessEqual(len(told), 4)
        return told

    def test_none(self):
        day = two(4, 3, 22, 5)
        for days in ([], [SOUND], [one(4, 1)], [day, day], [day, one(4, 1), one(22, 1)], [day, two(4, 5, 22, 3)]):
            self.assertEqual(self.told(days), ())

    def test_a_wrong_day_alone(self):
        wrong = day_by(EVEN, 20, 20, 1)
        day = two(4, 3, 22, 5)
        for days, numbers in (([wrong], (0,)), ([SOUND, wrong, day], (1,)), ([wrong, wrong], (0,)), ([day, SOUND, wrong], (2,))):
            self.assertEqual(self.told(days), numbers)
        self.assertEqual(self.told([wrong, one(1, 1), one(2, 1), one(3, 1)]), (0,))
        # From the last to the first: the three are left where the wrong day stands behind them.
        self.assertEqual(self.told([one(1, 1), one(2, 1), one(3, 1), wrong]), (0, 1, 2))

    def test_two(self):
        day = day_by(EVEN, 14, 14, 7)
        self.assertEqual(self.told([day, one(15, 2)]), (0, 1))
        self.assertEqual(self.told([SOUND, one(15, 3), one(15, 2), SOUND, day]), (1, 4))

    def test_three(self):
        self.assertEqual(self.told([one(4, 1), one(5, 1), one(6, 1)]), (0, 1, 2))
        self.assertEqual(self.told([one(4, 1), one(4, 2), one(5, 1), SOUND, one(5, 2), one(6, 1), one(7, 1)]), (0, 2, 5))
        day = two(4, 3, 22, 5)
        self.assertEqual(self.told([SOUND, day, day, one(4, 1), one(23, 1)]), (1, 3, 4))

    def test_four(self):
        # Each day is through three of four pairs: any three days share one pair, all four share none.
        days = [day_through(EVEN, POINTS[:at] + POINTS[at + 1:]) for at in range(4)]
        for at in range(4):
            word, pairs = telling(EVEN, tuple(days[:at] + days[at + 1:]))
            self.assertEqual((word, pairs), ("pairs", (places_of(EVEN, *POINTS[at]),)))
        self.assertEqual(telling(EVEN, tuple(days)), ("clash",))
        self.assertEqual(self.told(days), (0, 1, 2, 3))
        self.assertEqual(self.told([SOUND, days[0], days[1], SOUND, days[0], days[2], days[3], days[1], SOUND]), (1, 2, 5, 6))

    def test_days_by_chance(self):
        rand = chance(82)
        seen = {}
        for cable, days in some_days(rand, 250):
            told = self.told(days, cable)
            seen[len(told)] = seen.get(len(told), 0) + 1
            if told:
                left = tuple(days[at] for at in told)
                self.assertEqual(telling(cable, left), ("clash",))
                for at in range(len(left)):
                    self.assertNotEqual(telling(cable, left[:at] + left[at + 1:]), ("clash",))
        self.assertTrue({0, 1, 2, 3} <= set(seen), seen)


class DragsBy(unittest.TestCase):
    def test_none_and_one_place(self):
        self.assertEqual(drags_by(EVEN, (), ()), ())
        self.assertEqual(drags_by(EVEN, (SOUND, SOUND), ()), ((), ()))
        self.assertIsNone(drags_by(EVEN, (SOUND, one(4, 1)), ()))
        self.assertEqual(drags_by(EVEN, (), ((4, 1),)), ())
        self.assertEqual(drags_by(EVEN, (one(4, 7), SOUND, one(4, 2)), ((4, 1),)), (((7, 1),), (None,), ((2, 1),)))
        self.assertEqual(drags_by(EVEN, (SOUND,), ((4, 1),)), ((None,),))
        self.assertIsNone(drags_by(EVEN, (one(4, 7), one(5, 7)), ((4, 1),)))
        self.assertIsNone(drags_by(EVEN, (two(4, 3, 22, 5),), ((4, 1),)))

    def test_two_places(self):
        pair = ((4, 1), (22, 1))
        days = (two(4, 3, 22, 5), SOUND, one(4, 7), one(22, 9), two(4, 1, 22, 1))
        drags = (((3, 1), (5, 1)), (None, None), ((7, 1), None), (None, (9, 1)), ((1, 1), (1, 1)))
        self.assertEqual(drags_by(EVEN, days, pair), drags)
        for at in range(5):
            self.assertEqual(drags_by(EVEN, days[at:] + days[:at], pair), drags[at:] + drags[:at])
        self.assertEqual(drags_by(EVEN, (), pair), ())
        self.assertEqual(drags_by(EVEN, (SOUND,) * 12, pair), ((None, None),) * 12)
        # A place that leaks on none of the days.
        self.assertEqual(drags_by(EVEN, (one(4, 7), SOUND), ((4, 1), (5, 1))), (((7, 1), None), (None, None)))
        self.assertEqual(drags_by(EVEN, (one(4, 7), SOUND), ((3, 1), (4, 1))), ((None, (7, 1)), (None, None)))

    def test_places_that_do_not_fit(self):
        day = two(4, 3, 22, 5)
        for places in (((4, 1), (23, 1)), ((5, 1), (22, 1)), ((0, 1), (30, 1)), ((22, 1), (23, 1)), ((29, 1), (30, 1)),
                       (frac(4 + LITTLE), (22, 1)), ((4, 1), frac(22 - LITTLE)), ((3, 1), (4, 1)), (), ((22, 1),)):
            self.assertIsNone(drags_by(EVEN, (day,), places))
            self.assertIsNone(drags_by(EVEN, (SOUND, day, SOUND), places))
        self.assertIsNone(drags_by(EVEN, (one(4, 1), one(5, 1), one(6, 1)), ((4, 1), (5, 1))))
        for wrong in ((None, None, (1, 1)), day_by(EVEN, 20, 20, 1)):
            for places in ((), ((4, 1),), ((4, 1), (22, 1))):
                self.assertIsNone(drags_by(EVEN, (wrong,), places))
                self.assertIsNone(drags_by(EVEN, (SOUND, wrong), places))

    def test_by_chance(self):
        rand = chance(83)
        some = none = 0
        for cable, days in some_days(rand, 200):
            tried = [tuple(sorted({some_place(rand, cable) for _ in range(rand.randint(0, 2))}, key=num))]
            word, *told = telling(cable, days)
            tried += list(told[0]) if word == "pairs" else [(told[0],)] if word == "one" else []
            for places in tried:
                drags = drags_by(cable, days, places)
                self.assertEqual(drags is not None, all(fits(cable, day, places) for day in days))
                none += drags is None
                if drags is not None:
                    some += 1
                    self.assertEqual(len(drags), len(days))
                    for day, row in zip(days, drags):
                        self.assertEqual(len(row), len(places))
                        leaks = tuple((place, drag) for place, drag in zip(places, row) if drag is not None)
                        self.assertEqual(day_of(cable, leaks), day)
        self.assertGreater(min(some, none), 50)

    def test_refused(self):
        for odd in NO_CABLES:
            for days, places in (((), ()), (None, None), (odd, odd), ((SOUND,), ((99, 1),))):
                refused(self, "NoCable", drags_by, odd, days, places)
        odds = [odd for odd in NO_DAYS if odd not in ((), (LEAKING,))]
        for odd in [[], [SOUND], (SOUND,) * 13, SOUND, ((1, 1),), None, True, (SOUND, None)] + odds:
            for places in ((), ((99, 1),), None, odd):
                refused(self, "NoDays", drags_by, CABLE, odd, places)
        for odd in NO_DAYS:
            refused(self, "NoDays", drags_by, CABLE, (SOUND, odd), ())
        wide = all_steps(CABLE)
        for odd in ODD + (
                ((1, 1), (2, 1), (3, 1)), ((2, 1), (1, 1)), ((1, 1), (1, 1)), ((wide + 1, 1),), (frac(wide + LITTLE),), ((-1, 1),),
                ((0, 1), (wide + 1, 1)), ((-1, 1), (1, 1)), [(1, 1)], [], [(1, 1), (2, 1)], ([1, 1],), (1,), (1, 2), ((2, 4),),
                (None,), ((1, 1), None), (True,), ("1",), (1, 1), ((0, 2),), {}, {(1, 1): 1}, "", ((1, 1), [2, 1])):
            for days in ((), NOT_OF_TWO, WRONG_DAYS):
                refused(self, "NoPlaces", drags_by, CABLE, days, odd)
        for places in ((), ((0, 1),), ((wide, 1),), ((0, 1), (wide, 1)), ((1, 3), (1, 2))):
            self.assertEqual(len(drags_by(CABLE, (sound_day(CABLE),), places)[0]), len(places))


if __name__ == "__main__":
    unittest.main()
