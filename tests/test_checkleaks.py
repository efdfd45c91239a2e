import unittest
from fractions import Fraction

from earthends.checkleaks import leaks_hold
from earthends.days import day_of, kind_of
from helpers import (
    CABLE, ODD, WRONG_DAYS, Curve, all_drag, chance, check_kinds, day_by, frac, replaced, small_cable, small_leaks, some_cable,
    some_leaks, some_two, sound_day,
)

LITTLE = Fraction(1, 10 ** 30)
SOUND = sound_day(CABLE)
# The splices of CABLE are at 10 and 15 steps, where it drags 15 and 25 of 30.
ONE_LEAK = ((12, 1), (5, 2))
ONE_DAY = day_of(CABLE, (ONE_LEAK,))
TWO_LEAKS = (((4, 1), (8, 1)), ((18, 1), (20, 1)))
TWO_DAY = day_of(CABLE, TWO_LEAKS)
PLACES, DRAGS = tuple(zip(*TWO_LEAKS))
WORDS = ("loop", "earth", "west", "east", "lack")


def changed(day):
    """Days a little other than this one, of fractions throughout."""
    for at in range(3):
        for less in (LITTLE, -LITTLE, 1, -1):
            yield replaced(day, at, frac(Fraction(*day[at]) + less))


class Leaks(unittest.TestCase):
    holds = staticmethod(leaks_hold)

    def taken(self, claim, paper):
        self.assertIs(self.holds(claim, paper), True, (claim, paper))

    def no(self, claim, paper):
        self.assertIs(self.holds(claim, paper), False, (claim, paper))

    def test_sound(self):
        self.taken(("sound", CABLE, SOUND), None)
        for loop in (Fraction(97, 3) + LITTLE, Fraction(97, 3) - LITTLE, 0, 30, Fraction(7, 3)):
            self.no(("sound", CABLE, (None, None, frac(loop))), None)
        for day in (ONE_DAY, TWO_DAY) + WRONG_DAYS:
            self.no(("sound", CABLE, day), None)
        for paper in ODD + ("loop", "sound", (), SOUND):
            if paper is not None:
                self.no(("sound", CABLE, SOUND), paper)
        self.no(("sound", CABLE, SOUND, None), None)
        self.no(("sound", CABLE), None)
        self.no(("sound", replaced(CABLE, 1, (8, 3)), SOUND), None)

    def test_one(self):
        self.taken(("one", CABLE, ONE_DAY, ONE_LEAK), None)
        for other in (((12, 1), frac(Fraction(5, 2) + LITTLE)), ((12, 1), (2, 1)), (frac(12 - LITTLE), (5, 2)),
                      ((23, 1), (5, 2)), ((36, 1), (5, 2)), ((-1, 1), (5, 2)), ((12, 1), (0, 1)), ((12, 1), (-5, 2)),
                      ((5, 2), (12, 1)), (ONE_LEAK,), ONE_LEAK[0], (), ((12, 1), None)):
            self.no(("one", CABLE, ONE_DAY, other), None)
        for day in (SOUND, TWO_DAY) + WRONG_DAYS + tuple(changed(ONE_DAY)):
            self.no(("one", CABLE, day, ONE_LEAK), None)
        for leak in TWO_LEAKS:
            self.no(("one", CABLE, TWO_DAY, leak), None)
        for paper in ((), (5, 2), ONE_LEAK, "one", False):
            self.no(("one", CABLE, ONE_DAY, ONE_LEAK), paper)

    def test_one_at_ends_and_splices(self):
        for steps in (0, 10, 15, 35):
            leak = ((steps, 1), (1, 7))
            day = day_of(CABLE, (leak,))
            self.taken(("one", CABLE, day, leak), None)
            self.no(("one", CABLE, day, (frac(abs(steps - LITTLE)), (1, 7))), None)
            self.no(("one", CABLE, day, ((steps, 1), (1, 8))), None)

    def test_pair(self):
        self.taken(("pair", CABLE, TWO_DAY, PLACES), DRAGS)
        self.no(("pair", CABLE, TWO_DAY, PLACES[::-1]), DRAGS[::-1])
        self.no(("pair", CABLE, TWO_DAY, PLACES[::-1]), DRAGS)
        self.no(("pair", CABLE, TWO_DAY, PLACES), DRAGS[::-1])
        for place in PLACES:
            self.no(("pair", CABLE, TWO_DAY, (place, place)), DRAGS)
        for at in range(2):
            for drag in ((9, 1), (0, 1), (-8, 1), (-20, 1), frac(DRAGS[at][0] + LITTLE), None):
                self.no(("pair", CABLE, TWO_DAY, PLACES), replaced(DRAGS, at, drag))
            for place in ((5, 1), (-1, 1), (36, 1), frac(PLACES[at][0] - LITTLE), None):
                self.no(("pair", CABLE, TWO_DAY, replaced(PLACES, at, place)), DRAGS)
        for places, drags in ((PLACES[:1], DRAGS[:1]), (PLACES[:1], DRAGS), (PLACES, DRAGS[:1]), ((), ()),
                              (PLACES + ((30, 1),), DRAGS + ((1, 1),)), (PLACES, None)):
            self.no(("pair", CABLE, TWO_DAY, places), drags)

    def test_pair_of_other_days(self):
        for day in (SOUND, ONE_DAY) + WRONG_DAYS + tuple(changed(TWO_DAY)):
            self.no(("pair", CABLE, day, PLACES), DRAGS)
        self.no(("pair", CABLE, ONE_DAY, ((12, 1), (20, 1))), ((5, 2), (10 ** 50, 1)))
        self.no(("pair", CABLE, ONE_DAY, ((12, 1), (20, 1))), ((5, 2), None))

    def test_all_pairs_of_a_curve(self):
        rand = chance(101)
        for _ in range(25):
            cable, day = some_two(rand)
            curve = Curve(cable, day)
            for x in curve.samples():
                places, drags = zip(*curve.leaks(x))
                self.taken(("pair", cable, day, places), drags)
                self.no(("pair", cable, day, places), (drags[0], frac(Fraction(*drags[1]) + LITTLE)))
            # The pair of the same curve that lies west of the cable.
            x = -LITTLE
            self.no(("pair", cable, day, (frac(x), frac(curve.places(x)[1]))), drags)

    def test_day_of_more_leaks(self):
        rand = chance(102)
        for many in range(3, 7):
            cable = small_cable(rand, 4)
            leaks = small_leaks(rand, cable, many)
            day = day_of(cable, leaks)
            self.no(("pair", cable, day, tuple(leak[0] for leak in leaks)), tuple(leak[1] for leak in leaks))
            self.no(("pair", cable, day, tuple(leak[0] for leak in leaks[:2])), tuple(leak[1] for leak in leaks[:2]))
            places, drags = zip(*Curve(cable, day).leaks(Fraction(0)))
            self.taken(("pair", cable, day, places), drags)
            for leak in leaks:
                self.no(("one", cable, day, leak), None)

    def test_wrong(self):
        # By WEST, EAST, EARTH of CABLE, which drags 30: the first word, behind which others are so, too.
        for numbers, word in (
                ((15, 16, 2), "loop"), ((31, 0, -1), "loop"), ((32, -1, 2), "loop"), ((-1, 32, 2), "loop"),
                ((15, 15 + LITTLE, 2), "loop"), ((31, 31, 0), "loop"),
                ((15, 15, 0), "earth"), ((15, 10, -1), "earth"), ((31, -1, 0), "earth"), ((-1, 12, 0), "earth"),
                ((15, 10, -LITTLE), "earth"),
                ((-1, 15, 2), "west"), ((-LITTLE, 15, 2), "west"), ((-1, -1, 2), "west"), ((-1, 31, 2), "west"),
                ((15, -1, 2), "east"), ((31, -1, 2), "east"), ((15, -LITTLE, 2), "east"),
                ((12, 8, 10), "lack"), ((0, 15, 2), "lack"), ((15, 0, 2), "lack"), ((0, 0, 2), "lack"),
                ((12, 8, Fraction(96, 10) + LITTLE), "lack")):
            day = day_by(CABLE, *numbers)
            if Fraction(*day[0]) <= 0 or Fraction(*day[1]) <= 0 or Fraction(*day[2]) < 0:
                for tried in WORDS:
                    self.no(("wrong", CABLE, day), tried)
                continue
            self.assertEqual(kind_of(CABLE, day), ("wrong", word), numbers)
            for tried in WORDS + ("", "sound", "two", "Loop", "loop ", "west east"):
                self.assertIs(self.holds(("wrong", CABLE, day), tried), tried == word, (numbers, tried))
            for paper in (None, (word,), [word], word.encode(), True, 0):
                self.no(("wrong", CABLE, day), paper)
            self.no(("wrong", CABLE, day, word), word)
            self.no(("wrong", CABLE, day, word), None)

    def test_wrong_without_earth(self):
        for loop in (0, 30, Fraction(97, 3) - LITTLE, Fraction(97, 3) + LITTLE):
            for word in WORDS:
                self.assertIs(self.holds(("wrong", CABLE, (None, None, frac(loop))), word), word == "loop")

    def test_a_right_day_is_not_wrong(self):
        edge = day_by(CABLE, 12, 8, Fraction(96, 10))
        for day in (SOUND, ONE_DAY, TWO_DAY, edge, day_by(CABLE, 0, 30, 2), day_by(CABLE, 30, 0, 2)):
            for word in WORDS + (None, "", "sound", "one", "two"):
                self.no(("wrong", CABLE, day), word)

    def test_by_chance(self):
        rand = chance(103)
        seen = set()
        for _ in range(150):
            cable = some_cable(rand, 4)
            whole = all_drag(cable)
            leaks = some_leaks(rand, cable, rand.randint(0, 3))
            day = day_of(cable, leaks)
            if rand.random() < 0.5:
                numbers = [whole * Fraction(rand.randint(-5, 25), 20) for _ in range(3)]
                day = day_by(cable, *numbers)
            if day[0] is not None and min(day[0][0], day[1][0], day[2][0] + 1) <= 0:
                continue
            kind = kind_of(cable, day)
            seen.add(kind[0] if kind[0] != "wrong" else kind)
            self.assertIs(self.holds(("sound", cable, day), None), kind == ("sound",))
            for leak in leaks + ((kind[1],) if kind[0] == "one" else ()):
                self.assertIs(self.holds(("one", cable, day, leak), None), kind == ("one", leak))
            for word in WORDS:
                self.assertIs(self.holds(("wrong", cable, day), word), kind == ("wrong", word))
            if len(leaks) == 2:
                places, drags = zip(*leaks)
                self.assertIs(self.holds(("pair", cable, day, places), drags), day == day_of(cable, leaks))
        self.assertGreater(len(seen), 6, seen)

    def test_kinds(self):
        check_kinds(self, self.holds, ("sound", CABLE, SOUND), None)
        check_kinds(self, self.holds, ("one", CABLE, ONE_DAY, ONE_LEAK), None)
        check_kinds(self, self.holds, ("pair", CABLE, TWO_DAY, PLACES), DRAGS)
        check_kinds(self, self.holds, ("wrong", CABLE, WRONG_DAYS[5]), "lack")
        check_kinds(self, self.holds, ("wrong", CABLE, WRONG_DAYS[0]), "loop")
        ones = (((1, (1, 1)), (1, (1, 1))), (0, 1))
        check_kinds(self, self.holds, ("one", ones, day_by(ones, 1, 1, 1), ((1, 1), (1, 1))), None)
        check_kinds(self, self.holds, ("pair", ones, day_of(ones, (((0, 1), (1, 1)), ((1, 1), (1, 1)))), ((0, 1), (1, 1))),
                    ((1, 1), (1, 1)))

    def test_other_words(self):
        for word in ("Sound", "sound ", "ones", "two", "pairs", "", "curve", "all", "cuts"):
            self.no((word, CABLE, SOUND), None)
            self.no((word, CABLE, ONE_DAY, ONE_LEAK), None)
            self.no((word, CABLE, TWO_DAY, PLACES), DRAGS)


if __name__ == "__main__":
    unittest.main()
