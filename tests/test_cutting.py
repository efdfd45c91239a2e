import unittest
from fractions import Fraction

from earthends.cables import is_cable
from earthends.cutting import cover_of, cuts_needed, leaks_parted, parts
from earthends.leaks import is_leaks
from earthends.pairs import east_of, west_span
from earthends.stretches import joined, stretch_of
from helpers import (
    CABLE, NO_CABLES, NO_DAYS, NOT_OF_TWO, ODD, WRONG_DAYS, Curve, chance, day_by, frac, num, refused, small_cable, some_cable,
    some_leaks, some_two, splice_steps, two_at_splices,
)

LEAKS = (((0, 1), (1, 1)), ((10, 1), (2, 1)), ((21, 2), (3, 1)), ((15, 1), (4, 1)), ((35, 1), (5, 1)))
NO_SPLICES = (0, -1, -2, 3, 4, 12, 99, -10 ** 59, 10 ** 59, True, False, None, "1", b"1", (1,), (1, 1), [1], {}, {1}, ())
LITTLE = Fraction(1, 10 ** 30)
# Lengths that drag 10 each, and days by WEST, EAST and EARTH: how many cuts cover them.
EVEN = tuple((((10, (1, 1)),) * many, (0, 1)) for many in range(13))
COVERS = (
    (EVEN[1], 3, 4, 1, 0), (EVEN[2], 10, 10 - LITTLE, 1, 1), (EVEN[2], 5, 5, 1, 1), (EVEN[2], 12, 5, 1, 1),
    (EVEN[3], 14, 14, 1, 2), (EVEN[3], 14, 14, 90, 1), (EVEN[3], 10, 10, 1, 1), (EVEN[3], 5, 12, 1, 1), (EVEN[3], 12, 5, 1, 1),
    (EVEN[3], 12, 12, 24, 1), (EVEN[12], 54, 64, 10, 2), (EVEN[12], 65, 51, 1, 2), (EVEN[12], 60, 59, 1, 1),
    (EVEN[12], 1, 1, Fraction(1, 200), 1),
)


def parts_pair(cable, curve, x, splice):
    """Whether the leaks of a pair go to both parts."""
    west, east = curve.places(x)
    return west <= splice_steps(cable)[splice - 1] < east


def parted(cable, curve, x):
    return [splice for splice in range(1, len(cable[0])) if parts_pair(cable, curve, x, splice)]


def fewest_cuts(cable, curve):
    """By how few cuts some way parts each pair that any splice parts: all ways gone through."""
    samples = [(curve.way(x), frozenset(parted(cable, curve, x))) for x in curve.samples()]
    known = {}

    def fewest(left):
        if not any(samples[at][1] for at in left):
            return 0
        if left not in known:
            most = len(cable[0])
            for splice in range(1, len(cable[0])):
                not_parted = [at for at in left if splice not in samples[at][1]]
                west = frozenset(at for at in not_parted if samples[at][0][1] < splice)
                east = frozenset(not_parted) - west
                if left not in (west, east):
                    most = min(most, 1 + max(fewest(west), fewest(east)))
            known[left] = most
        return known[left]

    return fewest(frozenset(range(len(samples))))


class Parts(unittest.TestCase):
    def test_ordinary(self):
        lengths, back = CABLE
        self.assertEqual(parts(CABLE, 1), ((lengths[:1], back), (lengths[1:], back)))
        self.assertEqual(parts(CABLE, 2), ((lengths[:2], back), (lengths[2:], back)))

    def test_each_splice(self):
        rand = chance(51)
        for many in range(2, 13):
            cable = small_cable(rand, many)
            for splice in range(1, many):
                west, east = parts(cable, splice)
                self.assertIs(is_cable(west), True)
                self.assertIs(is_cable(east), True)
                self.assertEqual((west[0] + east[0], west[1], east[1]), (cable[0], cable[1], cable[1]))
                self.assertEqual(len(west[0]), splice)

    def test_refused(self):
        for odd in NO_CABLES:
            for splice in (1, 0, -1, 99, None, True, odd):
                refused(self, "NoCable", parts, odd, splice)
        for odd in NO_SPLICES:
            refused(self, "NoSplice", parts, CABLE, odd)
        for splice in (0, 1, -1, 2):
            refused(self, "NoSplice", parts, EVEN[1], splice)
        refused(self, "NoSplice", parts, EVEN[12], 12)
        self.assertEqual(len(parts(EVEN[12], 11)[0][0]), 11)


class LeaksParted(unittest.TestCase):
    def test_ordinary(self):
        self.assertEqual(leaks_parted(CABLE, LEAKS, 1), (
            (((0, 1), (1, 1)), ((10, 1), (2, 1))), (((1, 2), (3, 1)), ((5, 1), (4, 1)), ((25, 1), (5, 1)))))
        self.assertEqual(leaks_parted(CABLE, LEAKS, 2), (LEAKS[:4], (((20, 1), (5, 1)),)))
        self.assertEqual(leaks_parted(CABLE, LEAKS[:1], 1), (LEAKS[:1], ()))
        self.assertEqual(leaks_parted(CABLE, LEAKS[4:], 1), ((), (((25, 1), (5, 1)),)))

    def test_none(self):
        for splice in (1, 2):
            self.assertEqual(leaks_parted(CABLE, (), splice), ((), ()))

    def test_at_and_beside_a_splice(self):
        for aside, west in ((-LITTLE, True), (0, True), (LITTLE, False)):
            leak = (frac(10 + aside), (1, 1))
            self.assertEqual(leaks_parted(CABLE, (leak,), 1), ((leak,), ()) if west else ((), ((frac(aside), (1, 1)),)))

    def test_joined_again_they_are_the_cable(self):
        rand = chance(52)
        for many in list(range(7)) * 8:
            cable = some_cable(rand) if rand.random() < 0.5 else small_cable(rand, rand.randint(2, 12))
            leaks = some_leaks(rand, cable, many)
            for splice in range(1, len(cable[0])):
                west, east = leaks_parted(cable, leaks, splice)
                one, other = parts(cable, splice)
                self.assertIs(is_leaks(one, west), True)
                self.assertIs(is_leaks(other, east), True)
                self.assertTrue(all(num(place) > 0 for place, drag in east))
                self.assertEqual(joined(stretch_of(one, west), stretch_of(other, east)), stretch_of(cable, leaks))

    def test_refused(self):
        for odd in NO_CABLES:
            for leaks, splice in (((), 1), (None, 0), (LEAKS, -1), (odd, odd)):
                refused(self, "NoCable", leaks_parted, odd, leaks, splice)
        for odd in ODD + ([], list(LEAKS), LEAKS[::-1], (((36, 1), (1, 1)),), (((1, 1), (0, 1)),), LEAKS[0]):
            for splice in (1, 0, -1, 99, None, True, odd):
                refused(self, "NoLeaks", leaks_parted, CABLE, odd, splice)
        for odd in NO_SPLICES:
            for leaks in ((), LEAKS):
                refused(self, "NoSplice", leaks_parted, CABLE, leaks, odd)
        refused(self, "NoSplice", leaks_parted, EVEN[1], (), 1)


class Covers(unittest.TestCase):
    def check(self, cable, day):
        cuts, places = told = cover_of(cable, day)
        self.assertEqual(tuple(map(type, told + told[0])), (tuple, tuple) + (int,) * len(cuts))
        self.assertIs(type(places), tuple)
        self.assertEqual(len(cuts), len(places))
        self.assertEqual(list(cuts), sorted(set(cuts)))
        self.assertTrue(all(1 <= cut < len(cable[0]) for cut in cuts))
        worth = [num(place) for place in places]
        self.assertEqual(worth, sorted(set(worth)))
        curve = Curve(cable, day)
        for x in curve.samples():
            some = parted(cable, curve, x)
            self.assertEqual(bool(some), any(cut in some for cut in cuts), (cable, day, x))
        least, greatest = map(num, west_span(cable, day))
        by_places = []
        for place in places:
            self.assertTrue(least <= num(place) <= greatest)
            east = num(east_of(cable, day, place))
            by_places.append({k for k, steps in enumerate(splice_steps(cable), 1) if num(place) <= steps < east})
            self.assertTrue(by_places[-1])
        self.assertEqual(len(set().union(*by_places)), sum(map(len, by_places)))
        return len(cuts)

    def test_how_many(self):
        for cable, west, east, earth, many in COVERS:
            day = day_by(cable, west, east, earth)
            self.assertEqual(self.check(cable, day), many, (west, east, earth))
            self.assertEqual(cuts_needed(cable, day), many)

    def test_none(self):
        rand = chance(53)
        for _ in range(10):
            cable, day = some_two(rand, lengths=1)
            self.assertEqual(cover_of(cable, day), ((), ()))
            self.assertEqual(cuts_needed(cable, day), 0)

    def test_ordinary(self):
        # The west leak's drag is up to 14 - 14/14, and the first splice is at 10: beyond it the second one is needed.
        day = day_by(EVEN[3], 14, 14, 7)
        self.assertEqual(cover_of(EVEN[3], day)[0], (1, 2))
        self.assertEqual(self.check(EVEN[3], day), 2)

    def test_days_by_chance(self):
        rand = chance(54)
        seen = {}
        for _ in range(250):
            cable, day = some_two(rand, 12 if rand.random() < 0.2 else 5)
            many = self.check(cable, day)
            seen[many] = seen.get(many, 0) + 1
        self.assertEqual(sorted(seen), [0, 1, 2])
        self.assertTrue(all(count > 10 for count in seen.values()), seen)

    def test_where_pairs_are_just_at_the_splices(self):
        # Pairs whose east leak is just at a splice aren't parted by it, those whose west leak is are.
        for many in (2, 3, 4):
            for west in range(1, 10 * many):
                for east in range(1, 10 * many - west):
                    for share in (1, 10, 20, 25, 50):
                        lack = 10 * many - west - east
                        if share <= west * east and (west + 3 * east + share) % 5 == 0:
                            self.check(EVEN[many], day_by(EVEN[many], west, east, Fraction(share, lack)))

    def test_refused(self):
        for function in (cover_of, cuts_needed):
            for odd in NO_CABLES:
                for day in (COVERS[0], None, WRONG_DAYS[0], NOT_OF_TWO[0], odd):
                    refused(self, "NoCable", function, odd, day)
            for odd in NO_DAYS + WRONG_DAYS:
                refused(self, "NoDay", function, CABLE, odd)
            for day in NOT_OF_TWO:
                refused(self, "NoPair", function, CABLE, day)


class CutsNeeded(unittest.TestCase):
    def test_no_way_needs_fewer(self):
        rand = chance(55)
        seen = set()
        for _ in range(120):
            cable, day = some_two(rand, 12 if rand.random() < 0.2 else 5)
            told = cuts_needed(cable, day)
            seen.add(told)
            self.assertEqual(told, fewest_cuts(cable, Curve(cable, day)))
            self.assertIs(type(told), int)
        self.assertEqual(seen, {0, 1, 2})
        for cable, west, east, earth, many in COVERS:
            self.assertEqual(fewest_cuts(cable, Curve(cable, day_by(cable, west, east, earth))), many)

    def test_leaks_at_ends_and_splices(self):
        rand = chance(56)
        for _ in range(40):
            cable, places, day = two_at_splices(rand, 5)
            self.assertEqual(cuts_needed(cable, day), fewest_cuts(cable, Curve(cable, day)))


if __name__ == "__main__":
    unittest.main()
