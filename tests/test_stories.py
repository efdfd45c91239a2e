import unittest
from fractions import Fraction

from earthends.cutting import cuts_needed
from earthends.days import day_of
from earthends.pairs import pair_at
from earthends.stories import Story
from helpers import (
    CABLE, NO_CABLES, NO_DAYS, NOT_OF_TWO, WRONG_DAYS, Curve, all_steps, chance, day_by, frac, num, refused, replaced,
    some_two, sound_day, splice_steps,
)

EVEN = (((10, (1, 1)),) * 3, (2, 1))
# The west leak's drag is up to 13, the east leak's from 17.
DAY = day_by(EVEN, 14, 14, 7)
LITTLE = Fraction(1, 10 ** 30)


def piece_days(cable, piece, splice, pair):
    """The days of the lengths of a piece west and east of a splice, by leaks at places of the cable."""
    told = []
    for first, behind in ((piece[0], splice), (splice, piece[1])):
        part = (cable[0][first:behind], cable[1])
        start = all_steps((cable[0][:first], None))
        inside = [(num(place) - start, drag) for place, drag in pair]
        inside = [(place, drag) for place, drag in inside if (0 < place or first == 0) and place <= all_steps(part)]
        told.append(day_of(part, tuple((frac(place), drag) for place, drag in inside)))
    return tuple(told)


class Teller:
    """One pair behind a story, and what the story must say of it."""

    def __init__(self, case, cable, day, x):
        self.case, self.cable, self.curve = case, cable, Curve(cable, day)
        self.story = Story(cable, day)
        self.way, self.pair = self.curve.way(x), self.curve.leaks(x)
        self.piece, self.parted, self.told = (0, len(cable[0])), False, 0
        self.ways = [self.curve.way(other) for other in self.curve.samples()]

    def left(self):
        first, behind = self.piece
        return [(west, east) for west, east in self.ways if first <= west and east < behind]

    def check(self):
        case, story = self.case, self.story
        case.assertEqual(story.many(), self.told)
        if self.parted:
            case.assertEqual((story.cut(), story.leaks(), story.lengths()), (None, self.pair, ()))
            return
        case.assertIsNone(story.leaks())
        case.assertEqual(story.lengths(), tuple(sorted({west for west, east in self.left() if west == east})))
        if any(west < east for west, east in self.left()):
            case.assertTrue(self.piece[0] < story.cut() < self.piece[1])
        else:
            case.assertIsNone(story.cut())

    def days(self):
        return piece_days(self.cable, self.piece, self.story.cut(), self.pair)

    def go_on(self):
        """Tell the days of the next cut; whether there was one."""
        self.check()
        splice = self.story.cut()
        if splice is None:
            return False
        self.case.assertIsNone(self.story.tell(*self.days()))
        self.told += 1
        west, east = self.way
        self.parted = west < splice <= east
        if not self.parted:
            self.piece = (self.piece[0], splice) if east < splice else (splice, self.piece[1])
        return True

    def refuse_at_the_end(self):
        for west, east in ((None, None), (sound_day(self.cable),) * 2, ((1, 1), []), (DAY, DAY)):
            refused(self.case, "NoDeed", self.story.tell, west, east)
        self.check()


class Told(unittest.TestCase):
    def to_the_end(self, cable, day, x):
        teller = Teller(self, cable, day, x)
        while teller.go_on():
            pass
        self.assertLessEqual(teller.told, cuts_needed(cable, day))
        self.assertEqual(teller.parted, teller.way[0] < teller.way[1])
        teller.refuse_at_the_end()
        return (teller.told, teller.parted)

    def test_ordinary(self):
        story = Story(EVEN, DAY)
        self.assertEqual((story.cut(), story.many(), story.leaks(), story.lengths()), (2, 0, None, (1,)))
        pair = pair_at(EVEN, DAY, (5, 1))
        self.assertIsNone(story.tell(*piece_days(EVEN, (0, 3), 2, pair)))
        self.assertEqual((story.cut(), story.many(), story.leaks(), story.lengths()), (1, 1, None, (1,)))
        self.assertIsNone(story.tell(*piece_days(EVEN, (0, 2), 1, pair)))
        self.assertEqual((story.cut(), story.many(), story.leaks(), story.lengths()), (None, 2, pair, ()))

    def test_pairs_anywhere_on_the_curve(self):
        rand = chance(61)
        seen = {}
        for _ in range(60):
            cable, day = some_two(rand, 12 if rand.random() < 0.1 else 5)
            for x in Curve(cable, day).samples():
                end = self.to_the_end(cable, day, x)
                seen[end] = seen.get(end, 0) + 1
        self.assertEqual(sorted(seen), [(0, False), (1, False), (1, True), (2, False), (2, True)])
        for k in range(0, 53):
            self.to_the_end(EVEN, DAY, Fraction(k, 4))

    def test_one_length(self):
        story = Story((((5, (2, 1)),), (1, 2)), day_by((((5, (2, 1)),), (1, 2)), 3, 4, 1))
        self.assertEqual((story.cut(), story.many(), story.leaks(), story.lengths()), (None, 0, None, (0,)))
        refused(self, "NoDeed", story.tell, None, None)

    def test_lengths_before_any_cut(self):
        # The middle has both leaks of some pairs, the lengths at the ends of none.
        self.assertEqual(Story(EVEN, DAY).lengths(), (1,))
        # With 5, 12 and 10 the east leak is at the splice where the west one is at the end, so that both are west of it.
        even = (EVEN[0][:2], (0, 1))
        for west, east, share, lengths in ((5, 13, 10, (0,)), (5, 12, 10, (0,)), (5, 12, 11, ()), (5, 12, 9, (0,)),
                                           (5, 5, 1, ()), (12, 5, 9, (1,)), (12, 5, 10, ())):
            lack = 20 - west - east
            self.assertEqual(Story(even, day_by(even, west, east, Fraction(share, lack))).lengths(), lengths, (west, east, share))

    def test_two_stories_by_turns(self):
        rand = chance(62)
        cable, day = EVEN, DAY
        samples = Curve(cable, day).samples()
        for _ in range(30):
            tellers = [Teller(self, cable, day, x) for x in rand.sample(samples, 2)]
            goes = [True, True]
            while any(goes):
                at = rand.randint(0, 1)
                goes[at] = tellers[at].go_on()
                tellers[1 - at].check()

    def test_refused_stories(self):
        for odd in NO_CABLES:
            for day in (DAY, None, WRONG_DAYS[0], NOT_OF_TWO[0], odd):
                refused(self, "NoCable", Story, odd, day)
        for odd in NO_DAYS + WRONG_DAYS:
            refused(self, "NoDay", Story, CABLE, odd)
        for day in NOT_OF_TWO:
            refused(self, "NoPair", Story, CABLE, day)


class Amiss(unittest.TestCase):
    def refuse(self, teller, west, east):
        refused(self, "NoDay", teller.story.tell, west, east)
        teller.check()

    def refuse_all(self, teller):
        """Refuse days that aren't those of both parts by any pair that is left."""
        west, east = teller.days()
        splice = teller.story.cut()
        right = {piece_days(teller.cable, teller.piece, splice, teller.curve.leaks(x)) for x in teller.curve.samples()
                 if teller.curve.way(x) in teller.left()}
        sound = tuple(sound_day((teller.cable[0][a:b], teller.cable[1]))
                      for a, b in ((teller.piece[0], splice), (splice, teller.piece[1])))
        amiss = [sound, (east, west), (west, west), (east, east), sound[::-1]]
        for at, day in enumerate((west, east)):
            for part in range(3):
                if day[part] is not None:
                    for aside in (LITTLE, -LITTLE, 1):
                        other = day[:part] + (frac(num(day[part]) + aside),) + day[part + 1:]
                        amiss.append((other, east) if at == 0 else (west, other))
        # The west leak of one pair, and the east leak of another one.
        amiss += [(one[0], other[1]) for one in right for other in right]
        for days in amiss:
            if days not in right:
                self.refuse(teller, *days)

    def test_what_is_no_day(self):
        for x in (Fraction(5), Fraction(11), Fraction(0), Fraction(13)):
            teller = Teller(self, EVEN, DAY, x)
            going = True
            while going:
                if teller.story.cut() is not None:
                    west, east = teller.days()
                    for odd in NO_DAYS:
                        self.refuse(teller, odd, east)
                        self.refuse(teller, west, odd)
                        self.refuse(teller, odd, odd)
                going = teller.go_on()

    def test_what_only_looks_like_the_days(self):
        cable = (((10, (1, 1)),) * 2, (0, 1))
        pair = (((4, 1), (1, 1)), ((16, 1), (1, 1)))
        teller = Teller(self, cable, day_of(cable, pair), Fraction(4))
        self.assertEqual(teller.pair, pair)
        west, east = teller.days()
        self.assertEqual((west, east), (((5, 1), (7, 1), (10, 1)), ((7, 1), (5, 1), (10, 1))))
        for part in range(3):
            for days in ((replaced(west, part, (west[part][0], True)), east), (west, replaced(east, part, (east[part][0], True)))):
                self.assertEqual(days, (west, east))
                self.refuse(teller, *days)

    def test_days_of_no_pair_that_is_left(self):
        rand = chance(63)
        for _ in range(12):
            cable, day = some_two(rand, 5)
            for x in Curve(cable, day).samples():
                teller = Teller(self, cable, day, x)
                if teller.story.cut() is not None:
                    self.refuse_all(teller)
                while teller.go_on():
                    if teller.story.cut() is not None:
                        self.refuse_all(teller)

    def test_a_leak_at_the_splice_goes_to_the_west_part(self):
        # The pair whose east leak is at the second splice, told as if it went to the east part.
        curve = Curve(EVEN, DAY)
        west, east = curve.leaks(curve.near(Fraction(20)))
        self.assertEqual(east[0], (20, 1))
        teller = Teller(self, EVEN, DAY, curve.near(Fraction(20)))
        parts = ((EVEN[0][:2], EVEN[1]), (EVEN[0][2:], EVEN[1]))
        self.refuse(teller, day_of(parts[0], (west,)), day_of(parts[1], (((0, 1), east[1]),)))
        self.assertTrue(teller.go_on())
        self.assertEqual(teller.piece, (0, 2))

    def test_days_of_a_cut_that_was_told(self):
        teller = Teller(self, EVEN, DAY, Fraction(5))
        days = teller.days()
        self.assertTrue(teller.go_on())
        self.refuse(teller, *days)

    def test_other_leaks_at_the_same_places(self):
        teller = Teller(self, EVEN, DAY, Fraction(5))
        for aside in (LITTLE, -LITTLE, 1):
            for at in range(2):
                leaks = [list(leak) for leak in teller.pair]
                leaks[at][1] = frac(num(leaks[at][1]) + aside)
                self.refuse(teller, *piece_days(EVEN, (0, 3), 2, leaks))


class Pieces(unittest.TestCase):
    def test_the_back_wire_is_that_of_the_cable(self):
        teller = Teller(self, EVEN, DAY, Fraction(5))
        west, east = teller.days()
        self.refuse_back(teller, west, east)
        self.assertTrue(teller.go_on())

    def refuse_back(self, teller, west, east):
        for day, other in ((west[:2] + (frac(num(west[2]) - 2),), east), (west, east[:2] + (frac(num(east[2]) - 2),))):
            refused(self, "NoDay", teller.story.tell, day, other)
        teller.check()

    def test_splices_are_numbered_in_the_cable(self):
        rand = chance(64)
        for _ in range(20):
            cable, day = some_two(rand, lengths=6)
            self.assertIn(Story(cable, day).cut(), range(1, len(splice_steps(cable)) + 1))


if __name__ == "__main__":
    unittest.main()
