import unittest
from fractions import Fraction

from earthends.checkdays import days_hold
from earthends.days import kind_of
from earthends.tellings import clash_of, drags_by, telling
from helpers import (
    ODD, Curve, all_steps, chance, check_kinds, day_by, frac, num, paths_of, put_at, replaced, some_place,
)
from test_tellings import (
    EVEN, LITTLE, POINTS, SOUND, day_through, days_of_two_pairs, fits, one, places_of, some_days, telling_by_hand, two,
)

PAIR = ((4, 1), (22, 1))
TWO = two(4, 3, 22, 5)
OTHER = two(4, 5, 22, 3)
WRONG = (day_by(EVEN, 20, 20, 1), day_by(EVEN, 14, 14, 99), (None, None, (1, 1)))
# Any three of these share one pair, all four share none.
FOUR = tuple(day_through(EVEN, POINTS[:at] + POINTS[at + 1:]) for at in range(4))
FOUR_PLACES = tuple(places_of(EVEN, *point) for point in POINTS)
# Two pairs on both days, and on a third one.
CROSSING = tuple(day_through(EVEN, [POINTS[0], POINTS[2], (4, 12 + aside)]) for aside in (0, Fraction(1, 7), -Fraction(1, 20)))
CROSSED = (FOUR_PLACES[0], FOUR_PLACES[2])


class Asked(unittest.TestCase):
    holds = staticmethod(days_hold)

    def taken(self, word, days, rest, paper, cable=EVEN):
        self.assertIs(self.holds((word, cable, tuple(days), rest), paper), True, (word, cable, days, rest, paper))

    def no(self, word, days, rest, paper, cable=EVEN):
        self.assertIs(self.holds((word, cable, tuple(days), rest), paper), False, (word, cable, days, rest, paper))


class Fits(Asked):
    DAYS = (TWO, SOUND, one(4, 7), one(22, 9), OTHER)
    DRAGS = (((3, 1), (5, 1)), (None, None), ((7, 1), None), (None, (9, 1)), ((5, 1), (3, 1)))

    def test_places(self):
        self.taken("fits", self.DAYS, PAIR, self.DRAGS)
        self.taken("fits", (one(4, 7), SOUND, one(4, 2)), ((4, 1),), (((7, 1),), (None,), ((2, 1),)))
        self.taken("fits", (SOUND, SOUND), (), ((), ()))
        self.taken("fits", (SOUND,) * 12, PAIR, ((None, None),) * 12)
        self.taken("fits", (one(4, 7), SOUND), ((4, 1), (5, 1)), (((7, 1), None), (None, None)))
        for place in (0, 10, 30):
            self.taken("fits", (one(place, 2),), ((place, 1),), (((2, 1),),))

    def test_no_days(self):
        for places in ((), ((4, 1),), PAIR, ((0, 1), (30, 1))):
            self.taken("fits", (), places, ())
            for paper in (((),), None, (None,), [], ((None, None),), {}, ""):
                self.no("fits", (), places, paper)
        for places in (PAIR[::-1], ((31, 1),), ((-1, 1),), ((1, 1), (2, 1), (3, 1)), ((1, 1), (1, 1)), (None,), None, (1, 1), [],
                       ((2, 4),), ([1, 1],), (True,)):
            self.no("fits", (), places, ())

    def test_drags(self):
        for at, row in enumerate(self.DRAGS):
            for part in range(2):
                for drag in ((2, 1), None, (0, 1), (-3, 1), (10 ** 50, 1), 0, False, (), "None"):
                    if drag != row[part]:
                        self.no("fits", self.DAYS, PAIR, replaced(self.DRAGS, at, replaced(row, part, drag)))
            for other in (None, (), row[:1], row + (None,), list(row), row[::-1]):
                if other != row:
                    self.no("fits", self.DAYS, PAIR, replaced(self.DRAGS, at, other))
        for paper in (self.DRAGS[:4], self.DRAGS + ((None, None),), self.DRAGS[::-1], None, (), self.DRAGS[1:] + self.DRAGS[:1]):
            self.no("fits", self.DAYS, PAIR, paper)

    def test_places_that_do_not_fit(self):
        for places in (PAIR[::-1], (PAIR[0], PAIR[0]), PAIR[:1], PAIR[1:], (), PAIR + ((25, 1),), ((3, 1),) + PAIR,
                       ((4, 1), (31, 1)), ((-4, 1), (22, 1)), (frac(4 + LITTLE), (22, 1)), ((4, 1), frac(22 - LITTLE))):
            self.no("fits", self.DAYS, places, self.DRAGS)
            self.no("fits", self.DAYS, places, tuple(row[:len(places)] for row in self.DRAGS))
        self.no("fits", (TWO,), PAIR[::-1], (((5, 1), (3, 1)),))
        self.no("fits", (TWO,), PAIR + ((25, 1),), (((3, 1), (5, 1), None),))
        self.no("fits", (one(4, 7),), ((4, 1), (4, 1)), (((7, 1), None),))

    def test_days(self):
        self.no("fits", (SOUND,) * 13, PAIR, ((None, None),) * 13)
        self.no("fits", (SOUND,) * 13, (), ((),) * 13)
        for wrong in WRONG:
            for paper in (((None, None),), (((3, 1), (5, 1)),), ((None, (5, 1)),), (None,)):
                self.no("fits", (wrong,), PAIR, paper)
            self.no("fits", (wrong, SOUND), (), ((), ()))
        for day in (None, (), SOUND[:2], list(SOUND), SOUND + (None,)):
            self.no("fits", (SOUND, day), (), ((), ()))
        self.assertIs(self.holds(("fits", EVEN, [SOUND], ()), ((),)), False)

    def test_by_chance(self):
        rand = chance(131)
        some = 0
        for cable, days in some_days(rand, 80):
            told = telling(cable, days)
            tried = [tuple(sorted({some_place(rand, cable) for _ in range(rand.randint(0, 2))}, key=num))]
            tried += list(told[1]) if told[0] == "pairs" else [(told[1],)] if told[0] == "one" else []
            for places in tried:
                drags = drags_by(cable, days, places)
                if drags is None:
                    for paper in (None, ((None,) * len(places),) * len(days), (((1, 1),) * len(places),) * len(days)):
                        self.no("fits", days, places, paper, cable)
                    continue
                some += 1
                self.taken("fits", days, places, drags, cable)
                for path, part in paths_of(drags):
                    if len(path) == 2:
                        other = (1, 3) if part is None else rand.choice((None, frac(num(part) + 1)))
                        self.no("fits", days, places, put_at(drags, path, other), cable)
        self.assertGreater(some, 40)

    def test_kinds(self):
        check_kinds(self, self.holds, ("fits", EVEN, self.DAYS, PAIR), self.DRAGS)
        check_kinds(self, self.holds, ("fits", EVEN, (one(4, 7), SOUND), ((4, 1),)), (((7, 1),), (None,)))
        check_kinds(self, self.holds, ("fits", EVEN, (SOUND,), ()), ((),))


class All(Asked):
    def asked(self, days, numbers, cable=EVEN):
        """The pairs that are taken by these numbers, which are just those that fit."""
        word, *told = telling_by_hand(cable, tuple(days))
        pairs = told[0] if word == "pairs" else ()
        self.taken("all", days, pairs, numbers, cable)
        self.taken("all", days, pairs, numbers[::-1], cable)
        for at in range(len(pairs)):
            self.no("all", days, pairs[:at] + pairs[at + 1:], numbers, cable)
            self.no("all", days, pairs[:at + 1] + pairs[at:], numbers, cable)
            for part in range(2):
                aside = frac(abs(num(pairs[at][part]) - LITTLE))
                self.no("all", days, replaced(pairs, at, replaced(pairs[at], part, aside)), numbers, cable)
            self.no("all", days, replaced(pairs, at, pairs[at][::-1]), numbers, cable)
        for more in ((((0, 1), (1, 1)),), (((1, 1), (0, 1)),), (((-1, 1), (99999, 1)),)):
            if more != pairs:
                self.no("all", days, pairs + more, numbers, cable)
                self.no("all", days, more + pairs, numbers, cable)
        if len(pairs) == 2:
            self.no("all", days, pairs[::-1], numbers, cable)
        return pairs

    def test_two_days_of_two(self):
        self.assertEqual(self.asked((TWO, OTHER), (0, 1)), (PAIR,))
        self.assertEqual(self.asked((SOUND, OTHER, SOUND, TWO, TWO), (1, 4)), (PAIR,))
        self.assertEqual(self.asked(CROSSING[:2], (0, 1)), CROSSED)
        self.assertEqual(self.asked(CROSSING, (2, 1)), CROSSED)
        self.assertEqual(self.asked(CROSSING + (one(num(CROSSED[1][0]), 5),), (2, 1)), CROSSED[1:])
        for at in range(4):
            self.assertEqual(self.asked(FOUR[:at] + FOUR[at + 1:], (0, 2)), (FOUR_PLACES[at],))

    def test_touching_curves(self):
        day = day_by(EVEN, 10, 16, 3)
        x, share = Fraction(4), Fraction(12)
        west, east = 10 - x, share / (10 - x)
        for more in (Fraction(9, 8), Fraction(7, 8), 1 + LITTLE):
            numbers = (x + more * west, 16 - east + more * east)
            other = day_by(EVEN, *numbers, more * more * west * east / (30 - sum(numbers)))
            self.assertEqual(self.asked((day, other), (1, 0)), (places_of(EVEN, x, 16 - east),))

    def test_days_of_one(self):
        self.assertEqual(self.asked((one(22, 1), SOUND, one(4, 2)), (0, 2)), (PAIR,))
        for place in (4, 22):
            self.assertEqual(self.asked((one(place, 2), TWO, TWO), (0, 2)), (PAIR,))
            self.assertEqual(self.asked((TWO, one(place, 2), one(place, 3)), (0, 1)), (PAIR,))
            self.assertEqual(self.asked((OTHER, TWO, one(place, 3)), (1, 2)), (PAIR,))
        self.assertEqual(self.asked((one(0, 1), one(30, 1)), (0, 1)), (((0, 1), (30, 1)),))

    def test_no_pairs(self):
        for days, numbers in (
                ((one(4, 1), one(5, 1), one(6, 1)), (0, 1)), ((TWO, one(4, 1), one(5, 1)), (0, 1)),
                ((TWO, one(4, 1), one(5, 1)), (1, 2)), ((day_by(EVEN, 14, 14, 7), one(15, 2)), (0, 1)), (FOUR, (3, 0)),
                # Curves that meet at no fraction.
                ((day_by(EVEN, 14, 14, 10), day_by(EVEN, 13, Fraction(29, 2), 8)), (0, 1)),
                # Curves that don't meet.
                ((day_by(EVEN, 14, 14, 10), day_by(EVEN, 14, 14, 9)), (0, 1))):
            self.assertEqual(self.asked(days, numbers), ())

    def test_places_beyond_west_and_east_of_the_day(self):
        # WEST and EAST are 10 of 30, multiplied they are 4 less each of both places: but 12 is beyond WEST, 18 beyond EAST.
        day = day_by(EVEN, 10, 10, Fraction(4, 10))
        self.assertEqual(self.asked((one(12, 1), one(18, 1), day), (0, 1)), ())
        self.taken("clash", (day, one(12, 1)), (0, 1), (((12, 1),), first_pair(EVEN, day)))
        self.no("clash", (day, one(12, 1), one(18, 1)), (0, 1, 2), (((12, 1), (18, 1)),) * 3)
        self.no("fits", (day,), ((12, 1), (18, 1)), (((1, 1), (1, 1)),))

    def test_numbers(self):
        days = (TWO, SOUND, OTHER, TWO, one(4, 1), one(4, 2))
        for numbers in ((0, 2), (2, 0), (2, 3), (0, 4), (4, 0), (5, 3), (2, 5)):
            self.taken("all", days, (PAIR,), numbers)
        for numbers in ((0, 3), (3, 0), (0, 0), (2, 2), (0, 1), (1, 2), (1, 1), (4, 5), (5, 4), (4, 4), (-1, 2), (0, -2), (0, 6),
                        (6, 0), (-6, 2), (0, 10 ** 40), (0,), (), (0, 2, 3), (0, 2, None), (False, 2), (0, "2"), (0, None), None, 0,
                        [0, 2], ((0, 2),), {0: 2}, (0, (2, 1)), "02"):
            self.no("all", days, (PAIR,), numbers)
        self.no("all", (TWO, OTHER), (PAIR,), (0, True))
        self.no("all", (TWO, OTHER), (PAIR,), (False, 1))
        # Where days are alike no two numbers do.
        for numbers in ((0, 1), (0, 0), (1, 0)):
            for pairs in ((), (PAIR,)):
                self.no("all", (TWO, TWO), pairs, numbers)
                self.no("all", (one(4, 1), one(4, 2)), pairs, numbers)
                self.no("all", (SOUND, one(4, 2)), pairs, numbers)
                self.no("all", (SOUND, SOUND), pairs, numbers)
        self.no("all", (), (), (0, 1))
        self.no("all", (), (), ())
        self.no("all", (SOUND,), (), (0, 0))

    def test_days(self):
        for wrong in WRONG:
            for pairs in ((), (PAIR,)):
                for numbers in ((0, 1), (0, 2), (1, 2)):
                    self.no("all", (TWO, OTHER, wrong), pairs, numbers)
                    self.no("all", (TWO, wrong, OTHER), pairs, numbers)
        self.taken("all", (TWO, OTHER) * 6, (PAIR,), (0, 11))
        self.no("all", (TWO, OTHER) * 6 + (SOUND,), (PAIR,), (0, 1))
        for day in (None, (), TWO[:2], list(TWO)):
            self.no("all", (TWO, OTHER, day), (PAIR,), (0, 1))
        self.assertIs(self.holds(("all", EVEN, [TWO, OTHER], (PAIR,)), (0, 1)), False)

    def test_by_chance(self):
        rand = chance(132)
        seen = {}
        for cable, days in list(some_days(rand, 100)) + [(EVEN, tuple(days_of_two_pairs(rand, EVEN))) for _ in range(12)]:
            kinds = [kind_of(cable, day) for day in days]
            word, *told = telling_by_hand(cable, days)
            pairs = told[0] if word == "pairs" else ()
            for _ in range(4):
                numbers = tuple(rand.choice(range(-1, len(days) + 1)) for _ in range(2))
                right = all(0 <= number < len(days) for number in numbers) and all(kind[0] != "wrong" for kind in kinds)
                if right:
                    one_kind, other = kinds[numbers[0]], kinds[numbers[1]]
                    right = "sound" not in (one_kind[0], other[0]) and days[numbers[0]] != days[numbers[1]]
                    right = right and (one_kind[0], other[0]) != ("one", "one") or right and one_kind[1][0] != other[1][0]
                self.assertIs(self.holds(("all", cable, days, pairs), numbers), right, (cable, days, pairs, numbers))
                if right:
                    self.asked(days, numbers, cable)
                    seen[len(pairs)] = seen.get(len(pairs), 0) + 1
        self.assertTrue({0, 1, 2} <= set(seen), seen)

    def test_kinds(self):
        check_kinds(self, self.holds, ("all", EVEN, (TWO, OTHER), (PAIR,)), (0, 1))
        check_kinds(self, self.holds, ("all", EVEN, CROSSING[:2], CROSSED), (1, 0))
        check_kinds(self, self.holds, ("all", EVEN, (one(4, 1), one(5, 1), one(6, 1)), ()), (1, 2))


class Clash(Asked):
    def test_one_wrong_day(self):
        for wrong in WRONG:
            for days, numbers in (((wrong,), (0,)), ((SOUND, TWO, wrong), (2,)), ((wrong, wrong), (0,)), ((wrong, wrong), (1,))):
                for places in ((), ((4, 1),), PAIR, ((0, 1), (30, 1))):
                    self.taken("clash", days, numbers, (places,))
                for places in (PAIR[::-1], ((31, 1),), ((-1, 1),), ((1, 1), (2, 1), (3, 1)), None, [], (1, 1), (None,), True, ""):
                    self.no("clash", days, numbers, (places,))
                for paper in ((), None, ((), ()), PAIR, [()]):
                    self.no("clash", days, numbers, paper)
            # With others no places fit it.
            for paper in (((), ()), (PAIR, PAIR), (PAIR, ())):
                for days in ((SOUND, wrong), (TWO, wrong), (wrong, wrong), (wrong, SOUND)):
                    self.no("clash", days, (0, 1), paper)

    def test_days_that_do_not_clash(self):
        for days in ((SOUND,), (TWO,), (one(4, 1),), (TWO, OTHER), (TWO, TWO), (one(4, 1), one(5, 1)), (TWO, one(4, 1), one(22, 1)),
                     (SOUND, SOUND), (one(4, 1), one(4, 2)), FOUR[:3], CROSSING):
            for places in ((), ((4, 1),), PAIR):
                self.no("clash", days, tuple(range(len(days))), (places,) * len(days))

    def test_two(self):
        day = day_by(EVEN, 14, 14, 7)
        days = (SOUND, day, one(15, 2), one(15, 3))
        pair = places_of(EVEN, 0, 14 - 1)
        for places in (((15, 1),), ((15, 1), (16, 1)), ((1, 1), (15, 1))):
            self.taken("clash", days, (1, 2), (places, pair))
            self.taken("clash", days, (1, 3), (places, pair))
            self.no("clash", days, (2, 3), (places, places))
            self.no("clash", days, (1, 2), (pair, places))
        for places in ((), ((14, 1),), ((14, 1), (16, 1)), PAIR[:1], (frac(15 + LITTLE),), ((16, 1), (15, 1))):
            self.no("clash", days, (1, 2), (places, pair))
        for places in ((), pair[:1], pair[::-1], ((0, 1), (18, 1)), (frac(LITTLE), pair[1]), (pair[0], frac(num(pair[1]) - LITTLE))):
            self.no("clash", days, (1, 2), (((15, 1),), places))
        for numbers in ((2, 1), (1, 1), (0, 1), (0, 2), (1,), (2,), (), (1, 4), (-3, 2), (-1, 1), (1, 2, 3), (0, 1, 2), (True, 2),
                        ("1", 2), None, 1, [1, 2], (1, None), ((1, 1), (2, 1))):
            self.no("clash", days, numbers, (((15, 1),), pair))
        # Each of them must be needed.
        for paper in ((((15, 1),), pair, pair), ((), ((15, 1),), pair), (pair, ((15, 1),), pair)):
            self.no("clash", days, (0, 1, 2), paper)
            self.no("clash", days, (1, 2, 3), paper)

    def test_three(self):
        days = (one(4, 1), one(5, 1), one(6, 1), one(7, 1))
        spots = ((4, 1), (5, 1), (6, 1), (7, 1))
        for numbers in ((0, 1, 2), (0, 2, 3), (1, 2, 3)):
            kept = [spots[number] for number in numbers]
            paper = tuple(tuple(kept[:at] + kept[at + 1:]) for at in range(3))
            self.taken("clash", days, numbers, paper)
            self.no("clash", days, numbers, paper[::-1])
            for at in range(3):
                for places in ((), paper[at][:1], paper[at][::-1], paper[at - 1], tuple(kept), None):
                    self.no("clash", days, numbers, replaced(paper, at, places))
            self.no("clash", days, numbers[:2], paper[:2])
            self.no("clash", days, numbers[::-1], paper[::-1])
        self.no("clash", days, (0, 1, 2, 3), ((spots[1:3]),) * 4)
        curve = Curve(EVEN, TWO)
        self.taken("clash", (SOUND, TWO, one(4, 1), one(23, 1)), (1, 2, 3),
                   (((4, 1), (23, 1)), tuple(map(frac, curve.places(curve.near(23)))), PAIR))

    def test_four(self):
        self.taken("clash", FOUR, (0, 1, 2, 3), FOUR_PLACES)
        self.no("clash", FOUR, (0, 1, 2, 3), FOUR_PLACES[::-1])
        self.no("clash", FOUR + (SOUND,), (0, 1, 2, 3, 4), FOUR_PLACES + (FOUR_PLACES[0],))
        self.no("clash", FOUR, (0, 1, 2), FOUR_PLACES[:3])
        days = (SOUND, FOUR[0], FOUR[1], SOUND, FOUR[0], FOUR[2], FOUR[3])
        self.taken("clash", days, (1, 2, 5, 6), FOUR_PLACES)
        self.taken("clash", days, (2, 4, 5, 6), (FOUR_PLACES[1], FOUR_PLACES[0]) + FOUR_PLACES[2:])
        self.no("clash", days, (1, 2, 4, 5), FOUR_PLACES)

    def test_days(self):
        days = (one(4, 1), one(5, 1), one(6, 1))
        paper = (((5, 1), (6, 1)), ((4, 1), (6, 1)), ((4, 1), (5, 1)))
        self.taken("clash", days + (SOUND,) * 9, (0, 1, 2), paper)
        # A wrong day that isn't among the numbers doesn't matter.
        self.taken("clash", days + WRONG, (0, 1, 2), paper)
        self.no("clash", days + (SOUND,) * 10, (0, 1, 2), paper)
        for day in (None, (), SOUND[:2], list(SOUND), 0):
            self.no("clash", days + (day,), (0, 1, 2), paper)
        self.assertIs(self.holds(("clash", EVEN, list(days), (0, 1, 2)), paper), False)
        self.no("clash", (), (), ())
        self.no("clash", (), (0,), ((),))

    def test_by_chance(self):
        rand = chance(133)
        seen = set()
        for cable, days in some_days(rand, 120):
            numbers = clash_of(cable, days)
            tried = [numbers] + [tuple(sorted(rand.sample(range(len(days)), rand.randint(1, min(3, len(days)))))) for _ in days[:2]]
            for some in tried:
                chosen = [days[number] for number in some]
                paper = tuple(fitting(rand, cable, chosen[:at] + chosen[at + 1:]) for at in range(len(some)))
                others_fit = all(all(fits(cable, day, places) for day in chosen[:at] + chosen[at + 1:])
                                 for at, places in enumerate(paper))
                right = len(some) > 0 and telling_by_hand(cable, tuple(chosen)) == ("clash",) and others_fit
                self.assertIs(self.holds(("clash", cable, days, some), paper), right, (cable, days, some, paper))
                if right:
                    seen.add(len(some))
            self.assertEqual(self.holds(("clash", cable, days, numbers), tuple(
                fitting(rand, cable, [days[other] for other in numbers if other != number]) for number in numbers)), numbers != ())
        self.assertTrue({1, 2, 3} <= seen, seen)

    def test_kinds(self):
        days = (one(4, 1), one(5, 1), one(6, 1))
        check_kinds(self, self.holds, ("clash", EVEN, days, (0, 1, 2)), (((5, 1), (6, 1)), ((4, 1), (6, 1)), ((4, 1), (5, 1))))
        check_kinds(self, self.holds, ("clash", EVEN, FOUR, (0, 1, 2, 3)), FOUR_PLACES)
        check_kinds(self, self.holds, ("clash", EVEN, (SOUND, WRONG[0]), (1,)), ((),))
        for odd in ODD:
            self.assertIs(self.holds(("clash", EVEN, (WRONG[0],), (0,)), (odd,)), False)


def first_pair(cable, day):
    """The places of the pair of a day of two with a leak at the west end."""
    return tuple(map(frac, Curve(cable, day).places(Fraction(0))))


def fitting(rand, cable, days):
    """Places that fit all these days, or any if there are none."""
    word, *told = telling_by_hand(cable, tuple(days))
    if word == "sound":
        return rand.choice(((), ((0, 1),), ((0, 1), (all_steps(cable), 1))))
    if word == "one":
        return (told[0],)
    if word == "curve":
        return first_pair(cable, days[told[0]])
    return told[0][-1] if word == "pairs" else ((0, 1),)


if __name__ == "__main__":
    unittest.main()
