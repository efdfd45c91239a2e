"""[3]: what holds over the whole program."""

import unittest
from itertools import combinations, permutations

from earthends.book import Book
from earthends.cables import drag_of, drag_to, place_at, splices_of, steps_of
from earthends.cabletexts import read_cable, show_cable
from earthends.checker import holds
from earthends.cutting import cover_of, cuts_needed, leaks_parted, parts
from earthends.days import day_of, kind_of, seen_by
from earthends.desk import Desk
from earthends.fractions import fraction, over, plus, root
from earthends.lamps import lamp_needed, lamp_plan, ways_of
from earthends.measures import measure
from earthends.mending import added, exchanged, leaks_added, turned
from earthends.pairs import east_of, east_span, pair_at, west_of, west_span
from earthends.papers import paper_cuts, paper_day, paper_days, paper_lamp
from earthends.single import drag_by, one_leak
from earthends.stories import Story
from earthends.stretches import joined, stretch_of
from earthends.tellings import clash_of, drags_by, telling
from helpers import (
    CABLE, CLASSES, LEAKING, NOT_OF_TWO, WRONG_DAYS, Curve, all_steps, chance, num, refused, replaced, small_cable, small_leaks,
    some_cable, some_leaks, sound_day,
)
from test_desk import all_told, enter_row
from test_tellings import some_days

WORDS = ("west free", "east free", "west earth", "east earth", "loop")


def some_leaking(rand, turns):
    """Cables with one to six leaks, by turns."""
    for turn in range(turns):
        many = 1 + turn % 6
        if turn % 4 == 3:
            cable = some_cable(rand)
            yield cable, some_leaks(rand, cable, many)
        else:
            cable = small_cable(rand, rand.randint(1, 12))
            yield cable, small_leaks(rand, cable, many)


def fewer_leaks(cable, day):
    """The one leak, or some pairs, told of a day."""
    kind = kind_of(cable, day)
    if kind[0] == "one":
        return [(kind[1],)]
    least, most = map(num, west_span(cable, day))
    places = [least, most, (least + most) / 2, (3 * least + most) / 4]
    return [pair_at(cable, day, (place.numerator, place.denominator)) for place in places]


class Ends(unittest.TestCase):
    def test_the_ends_see_three_numbers(self):
        rand = chance(161)
        for cable, leaks in some_leaking(rand, 36):
            day = day_of(cable, leaks)
            stretch = stretch_of(cable, leaks)
            self.assertEqual(seen_by(cable, day), stretch[1])
            self.assertEqual(kind_of(cable, day)[0], "one" if len(leaks) == 1 else "two")
            for others in fewer_leaks(cable, day):
                self.assertLessEqual(len(others), 2)
                self.assertEqual(stretch_of(cable, others), stretch)
                for word in WORDS:
                    self.assertEqual(measure(cable, others, word), measure(cable, leaks, word))

    def test_other_cables_joined_on_tell_no_more(self):
        rand = chance(162)
        for _ in range(20):
            cable = small_cable(rand, rand.randint(1, 6))
            leaks = small_leaks(rand, cable, rand.randint(1, 4))
            west, east = small_cable(rand, rand.randint(1, 3)), small_cable(rand, rand.randint(1, 3))
            # Not at the ends where they are joined, so that no place has two leaks.
            west_leaks = tuple(leak for leak in small_leaks(rand, west, 1) if num(leak[0]) < all_steps(west))
            east_leaks = tuple(leak for leak in small_leaks(rand, east, 1) if num(leak[0]) > 0)
            whole = added(added(west, cable), east)
            told = []
            for here in [leaks] + fewer_leaks(cable, day_of(cable, leaks)):
                both = leaks_added(west, west_leaks, cable, here)
                all_leaks = leaks_added(added(west, cable), both, east, east_leaks)
                told.append([measure(whole, all_leaks, word) for word in WORDS])
                stretch = joined(joined(stretch_of(west, west_leaks), stretch_of(cable, here)), stretch_of(east, east_leaks))
                self.assertEqual(stretch_of(whole, all_leaks), stretch)
            self.assertEqual(told, told[:1] * len(told))

    def test_one_leak_is_told_exactly(self):
        rand = chance(163)
        for _ in range(40):
            cable = some_cable(rand)
            leaks = some_leaks(rand, cable, 1)
            self.assertEqual(kind_of(cable, day_of(cable, leaks)), ("one", leaks[0]))
            for word, other in combinations(WORDS[:4], 2):
                readings = measure(cable, leaks, word), measure(cable, leaks, other)
                self.assertEqual(one_leak(cable, word, readings[0], other, readings[1]), leaks[0])


class Papers(unittest.TestCase):
    def test_all_papers_of_a_day_are_taken(self):
        rand = chance(164)
        for cable, leaks in some_leaking(rand, 60):
            day = day_of(cable, leaks)
            told = [paper_day(cable, day), paper_days(cable, (day,)), paper_days(cable, (sound_day(cable), day, day))]
            if len(leaks) > 1:
                told += [paper_cuts(cable, day), paper_lamp(cable, day)]
                self.assertEqual(told[3], (("cuts", cable, day, len(cover_of(cable, day)[0])), cover_of(cable, day)))
                self.assertEqual(told[4][0], ("lamp", cable, day, lamp_needed(cable, day)))
                self.assertEqual(told[4][1][0], lamp_plan(cable, day))
                for others in fewer_leaks(cable, day):
                    places, drags = zip(*others)
                    self.assertIs(holds(("pair", cable, day, places), drags), True)
            for claim, paper in told:
                self.assertIs(holds(claim, paper), True, (claim, paper))
            self.assertEqual(telling(cable, (day,)), ("one", leaks[0][0]) if len(leaks) == 1 else ("curve", 0))

    def test_of_days(self):
        rand = chance(165)
        for cable, days in some_days(rand, 80):
            claim, paper = paper_days(cable, days)
            self.assertIs(holds(claim, paper), True)
            told = telling(cable, days)
            if told[0] == "pairs":
                self.assertIn(len(told[1]), (1, 2))
                for pair in told[1]:
                    self.assertIs(holds(("fits", cable, days, pair), drags_by(cable, days, pair)), True)
            if told[0] == "one":
                # With any other place, which never leaks.
                self.assertIsNotNone(drags_by(cable, days, (told[1],)))
                other = ((told[1], (steps_of(cable), 1)) if num(told[1]) < all_steps(cable) else ((0, 1), told[1]))
                self.assertIsNotNone(drags_by(cable, days, other))
            self.assertLessEqual(len(clash_of(cable, days)), 4)
            self.assertEqual(clash_of(cable, days) == (), told != ("clash",))


class Stories(unittest.TestCase):
    def test_two_are_parted_by_the_cuts_needed(self):
        rand = chance(166)
        for _ in range(40):
            cable = small_cable(rand, rand.randint(2, 12))
            day = day_of(cable, small_leaks(rand, cable, rand.randint(2, 6)))
            curve = Curve(cable, day)
            for x in rand.choices(curve.samples(), k=2):
                leaks = curve.leaks(x)
                story, piece = Story(cable, day), (0, len(cable[0]))
                while story.cut() is not None:
                    splice = story.cut()
                    west, east = (piece[0], splice), (splice, piece[1])
                    story.tell(*(self.day_of_piece(cable, leaks, part) for part in (west, east)))
                    ways = curve.way(x)
                    piece = west if ways[1] < splice else east if ways[0] >= splice else None
                self.assertLessEqual(story.many(), cuts_needed(cable, day))
                self.assertLessEqual(story.many(), 2)
                self.assertEqual(story.leaks(), leaks if piece is None else None)
                self.assertEqual(piece is None, curve.way(x)[0] != curve.way(x)[1])

    def day_of_piece(self, cable, leaks, piece):
        """The day of some lengths of a cable, a leak at a splice counted to the length west of it."""
        first, behind = piece
        if behind < len(cable[0]):
            leaks = leaks_parted(cable, leaks, behind)[0]
            cable = parts(cable, behind)[0]
        if first > 0:
            leaks = leaks_parted(cable, leaks, first)[1]
            cable = parts(cable, first)[1]
        return day_of(cable, leaks)


class Late(unittest.TestCase):
    def test_late_entries_tell_all_as_if_in_time(self):
        rand = chance(167)
        for _ in range(6):
            cable = small_cable(rand, 3)
            places = [place for place, _ in small_leaks(rand, cable, 2)]
            rows = []
            for day in rand.sample(range(10), 4):
                drags = [drag for _, drag in small_leaks(rand, cable, 2)]
                readings = day_of(cable, tuple(zip(places, drags))[:rand.randint(0, 2)])
                rows.append((day, readings, enter_row(day, readings)))
            mends = [(rand.randint(0, 9), number, cable[0][number]) for number in rand.sample(range(3), rand.randint(0, 1))]
            deeds = [("enter", *row) for row in rows] + [
                ("mend", day, (number, length), f"mend {day} {number} {length[0]} {'/'.join(map(str, length[1]))}".removesuffix("/1"))
                for day, number, length in mends]
            told = []
            for turn in list(permutations(deeds))[::7]:
                book, desk = Book(cable), Desk(cable)
                for word, day, rest, row in turn:
                    book.enter(day, rest) if word == "enter" else book.mend(day, *rest)
                    self.assertEqual(desk.say(row), "ok")
                told.append(([(book.cable(day), book.days(day), book.telling(day), book.clash(day)) for day in range(11)],
                             all_told(desk, range(11))))
            self.assertEqual(told, told[:1] * len(told))

    def test_what_is_asked_again_is_told_the_same(self):
        rand = chance(168)
        for cable, leaks in some_leaking(rand, 12):
            day = day_of(cable, leaks)
            asked = [(drag_of, cable), (splices_of, cable), (show_cable, cable), (turned, cable), (stretch_of, cable, leaks),
                     (day_of, cable, leaks), (kind_of, cable, day), (paper_day, cable, day), (telling, cable, (day,)),
                     (clash_of, cable, (day,)), (paper_days, cable, (day, sound_day(cable))), (drags_by, cable, (day,), ())]
            if len(leaks) > 1:
                asked += [(function, cable, day) for function in (
                    west_span, east_span, cover_of, cuts_needed, ways_of, lamp_needed, lamp_plan, paper_cuts, paper_lamp)]
                asked += [(pair_at, cable, day, (0, 1)), (east_of, cable, day, (0, 1)), (west_of, cable, day, (steps_of(cable), 1))]
            first = [function(*rest) for function, *rest in asked]
            self.assertEqual([function(*rest) for function, *rest in asked[::-1]], first[::-1])


class Refusals(unittest.TestCase):
    def test_each_class(self):
        two = day_of(CABLE, (((4, 1), (8, 1)), ((18, 1), (20, 1))))
        asked = {
            "NoNumber": [(fraction, 1, 0), (over, (1, 1), (0, 1)), (plus, 1, 2), (root, True), (exchanged, CABLE, 3, (1, (1, 1)))],
            "NoCable": [(drag_of, None), (paper_day, None, None), (Desk, None), (Book, ()), (Story, 0, 0), (turned, [])],
            "NoDrag": [(place_at, CABLE, (31, 1))],
            "NoText": [(read_cable, "back")],
            "NoLeaks": [(stretch_of, CABLE, None), (leaks_added, CABLE, (((35, 1), (1, 1)),), CABLE, (((0, 1), (1, 1)),))],
            "NoStretch": [(joined, None, None)],
            "NoWord": [(measure, CABLE, (), "other"), (drag_by, CABLE, "loop", (1, 1), (1, 1))],
            "NoReading": [(drag_by, CABLE, "west free", None, None)],
            "NoPlace": [(drag_to, CABLE, (36, 1)), (pair_at, CABLE, two, (35, 1))],
            "NoDay": [(kind_of, CABLE, None), (paper_cuts, CABLE, WRONG_DAYS[0]), (paper_lamp, CABLE, ())],
            "NoPair": [(paper_cuts, CABLE, NOT_OF_TWO[0]), (paper_lamp, CABLE, NOT_OF_TWO[1]), (west_span, CABLE, NOT_OF_TWO[2])],
            "NoSplice": [(parts, CABLE, 3), (leaks_parted, CABLE, (), 0)],
            "NoDays": [(telling, CABLE, LEAKING), (paper_days, CABLE, [])],
            "NoPlaces": [(drags_by, CABLE, (), None)],
            "NoLength": [(exchanged, CABLE, 0, None), (added, (CABLE[0] * 3, (0, 1)), (CABLE[0] * 2, (0, 1)))],
            "NoDeed": [(Book(CABLE).strike, 0), (Desk(CABLE).say, "kind 0")],
            "NoBack": [(Book(CABLE).back,), (Desk(CABLE).say, "back")],
            "NoRow": [(Desk(CABLE).say, None), (Desk(CABLE).say, "kind")],
        }
        self.assertEqual(set(asked), set(CLASSES))
        for name, calls in asked.items():
            for function, *rest in calls:
                refused(self, name, function, *rest)
        for at in range(3):
            refused(self, "NoDay", paper_day, CABLE, replaced(two, at, None))


if __name__ == "__main__":
    unittest.main()
