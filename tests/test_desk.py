import unittest
from fractions import Fraction
from unittest import mock

from earthends.book import Book
from earthends.cabletexts import show_cable
from earthends.checker import holds
from earthends.cutting import cuts_needed
from earthends.days import day_of, kind_of
from earthends.desk import Desk
from earthends.errors import EarthError
from earthends.lamps import lamp_needed
from earthends.pairs import east_span, pair_at, west_span
from earthends.papers import paper_day
from helpers import (
    CABLE, NO_CABLES, ODD, WRONG_DAYS, Same, Unlike, all_drag, chance, frac, refused, small_cable, small_leaks, sound_day,
)
from test_checkdays import CROSSED, CROSSING
from test_tellings import EVEN, SOUND, one, two

QUESTIONS = ("cable", "days", "kind", "spans", "cuts", "lamp", "tell", "clash", "paper")
OF_READINGS = ("kind", "spans", "pair", "cuts", "lamp", "paper")
# One row of each word that is written as it should be.
ROWS = ("enter 5 18 16 20", "sound 5 32", "strike 5", "mend 5 0 7 5/3", "back", "pair 5 4") + tuple(f"{word} 5" for word in QUESTIONS)


def show(fraction):
    top, bottom = fraction
    return str(top) if bottom == 1 else f"{top}/{bottom}"


def enter_row(day, readings):
    if readings[0] is None:
        return f"sound {day} {show(readings[2])}"
    return f"enter {day} {' '.join(map(show, readings))}"


def all_told(desk, days, places=("0", "4")):
    """All that a desk tells of these days, the classes of refusals with it."""
    told = []
    for day in days:
        for row in [f"{word} {day}" for word in QUESTIONS] + [f"pair {day} {place}" for place in places]:
            try:
                told.append(desk.say(row))
            except EarthError as caught:
                told.append(type(caught).__name__)
    return told


def by_functions(book, day, places=("0", "4")):
    """What all_told tells, by the book and the functions."""
    told = []

    def add(make):
        try:
            told.append(make())
        except EarthError as caught:
            told.append(type(caught).__name__)

    cable = book.cable(day)
    readings = dict(book.days(day)).get(day)

    def kind():
        word, *rest = kind_of(cable, readings)
        return " ".join([word] + [part if word == "wrong" else " ".join(map(show, part)) for part in rest])

    def spans():
        return ", ".join(f"{show(least)} to {show(most)}" for least, most in (west_span(cable, readings), east_span(cable, readings)))

    def telling():
        word, *rest = book.telling(day)
        if word == "pairs":
            return "pairs " + ", ".join(f"{show(west)} {show(east)}" for west, east in rest[0])
        return " ".join([word] + [show(part) if word == "one" else str(part) for part in rest])

    add(lambda: show_cable(cable).replace("\n", "; "))
    add(lambda: " ".join(str(other) for other, _ in book.days(day)) or "none")
    asked = [kind, spans, lambda: str(cuts_needed(cable, readings)), lambda: str(lamp_needed(cable, readings))]
    for make in asked:
        add(make) if readings else told.append("NoDeed")
    add(telling)
    add(lambda: " ".join(map(str, book.clash(day))) or "none")
    add(lambda: "holds" if holds(*paper_day(cable, readings)) else "no") if readings else told.append("NoDeed")
    for place in places:
        add(lambda: ", ".join(f"{show(spot)} {show(drag)}" for spot, drag in pair_at(cable, readings, (int(place), 1)))) if (
            readings) else told.append("NoDeed")
    return told


class Answers(unittest.TestCase):
    def say(self, desk, row, answer):
        told = desk.say(row)
        self.assertIs(type(told), str)
        self.assertEqual(told, answer, row)

    def test_a_new_desk(self):
        desk = Desk(CABLE)
        for day in (0, 7, 9999):
            self.say(desk, f"cable {day}", "back 7/3; 10 x 3/2; 5 x 2; 20 x 1/4")
            self.say(desk, f"days {day}", "none")
            self.say(desk, f"tell {day}", "sound")
            self.say(desk, f"clash {day}", "none")
            for row in (f"kind {day}", f"spans {day}", f"pair {day} 4", f"cuts {day}", f"lamp {day}", f"paper {day}", f"strike {day}"):
                refused(self, "NoDeed", desk.say, row)
        refused(self, "NoBack", desk.say, "back")

    def test_deeds(self):
        desk = Desk(EVEN)
        self.say(desk, "enter 5 5 27 32", "ok")
        self.say(desk, "days 5", "5")
        refused(self, "NoDeed", desk.say, "enter 5 5 27 32")
        refused(self, "NoDeed", desk.say, "sound 5 32")
        self.say(desk, "strike 5", "ok")
        self.say(desk, "days 5", "none")
        refused(self, "NoDeed", desk.say, "strike 5")
        self.say(desk, "sound 5 32", "ok")
        self.say(desk, "kind 5", "sound")
        self.say(desk, "mend 3 1 7 5/3", "ok")
        self.say(desk, "cable 3", "back 2; 10 x 1; 7 x 5/3; 10 x 1")
        self.say(desk, "cable 2", "back 2; 10 x 1; 10 x 1; 10 x 1")
        self.say(desk, "kind 5", "wrong loop")
        for _ in range(4):
            self.say(desk, "back", "ok")
        refused(self, "NoBack", desk.say, "back")
        self.say(desk, "days 5", "none")

    def test_kinds(self):
        desk = Desk(EVEN)
        for day, (readings, answer) in enumerate((
                (SOUND, "sound"), (one(4, 7), "one 4 7"), (day_of(EVEN, (((7, 3), (5, 2)),)), "one 7/3 5/2"),
                (two(4, 3, 22, 5), "two"), ((None, None, (1, 1)), "wrong loop"))):
            desk.say(enter_row(day, readings))
            self.say(desk, f"kind {day}", answer)
            self.say(desk, f"paper {day}", "holds")
        desk = Desk(CABLE)
        for day, (readings, word) in enumerate(zip(WRONG_DAYS, ("loop", "loop", "earth", "west", "east", "lack"))):
            desk.say(enter_row(day, readings))
            self.say(desk, f"kind {day}", f"wrong {word}")
            self.say(desk, f"paper {day}", "holds")
            for word in ("spans", "cuts", "lamp"):
                refused(self, "NoDay", desk.say, f"{word} {day}")
            refused(self, "NoDay", desk.say, f"pair {day} 99")

    def test_of_two(self):
        desk = Desk(EVEN)
        # WEST and EAST are 14, EARTH 5, LACK 2: the spans and the pairs by hand.
        self.say(desk, "enter 17 19 19 30", "ok")
        self.say(desk, "kind 17", "two")
        self.say(desk, "spans 17", "0 to 93/7, 117/7 to 30")
        self.say(desk, "pair 17 4", "4 65, 17 13/2")
        self.say(desk, "pair 17 9", "9 45/2, 18 9")
        self.say(desk, "pair 17 93/7", "93/7 585/98, 30 117")
        self.say(desk, "cuts 17", "2")
        self.say(desk, "lamp 17", "2")
        self.say(desk, "tell 17", "curve 17")
        self.say(desk, "paper 17", "holds")
        for place in ("94/7", "30", "31", "999999999"):
            refused(self, "NoPlace", desk.say, f"pair 17 {place}")
        self.say(desk, "enter 18 5 27 32", "ok")
        for word in ("spans", "cuts", "lamp"):
            refused(self, "NoPair", desk.say, f"{word} 18")
        for place in ("4", "99", "0"):
            refused(self, "NoPair", desk.say, f"pair 18 {place}")

    def test_a_paper_that_is_not_taken(self):
        # The checker takes all of the house's papers, so another one is put in its place.
        desk = desk_of_two()
        with mock.patch("earthends.desk.holds", return_value=False) as asked:
            self.say(desk, "paper 17", "no")
        asked.assert_called_once_with(*paper_day(EVEN, ((19, 1), (19, 1), (30, 1))))
        self.say(desk, "paper 17", "holds")

    def test_tell_and_clash(self):
        desk = Desk(EVEN)
        for row, told, clash in (
                ("sound 8 32", "sound", "none"), (enter_row(3, one(4, 7)), "one 4", "none"),
                (enter_row(30, one(22, 7)), "pairs 4 22", "none"), (enter_row(20, two(4, 3, 22, 5)), "pairs 4 22", "none"),
                (enter_row(9999, one(5, 7)), "clash", "3 20 9999"), ("strike 9999", "pairs 4 22", "none"),
                ("strike 3", "pairs 4 22", "none"), ("strike 30", "curve 20", "none"),
                (enter_row(10, day_of(EVEN, (((1, 3), (1, 1)),))), None, None), ("back", "curve 20", "none"),
                (enter_row(0, (None, None, (1, 1))), "clash", "0")):
            self.say(desk, row, "ok")
            if told is not None:
                for day in (0, 8, 9999):
                    self.say(desk, f"tell {day}", told)
                    self.say(desk, f"clash {day}", clash)

    def test_two_pairs(self):
        desk = Desk(EVEN)
        for day, readings in enumerate(CROSSING):
            self.say(desk, enter_row(day, readings), "ok")
        pairs = ", ".join(f"{show(west)} {show(east)}" for west, east in CROSSED)
        self.say(desk, "tell 7", f"pairs {pairs}")

    def test_spells(self):
        desk = Desk(EVEN)
        for day in (1, 5, 9, 9999):
            self.say(desk, f"sound {day} 32", "ok")
        self.say(desk, "mend 5 0 10 1", "ok")
        self.say(desk, "mend 10 2 20 1/2", "ok")
        for day, told in ((0, "1"), (4, "1"), (5, "5 9"), (9, "5 9"), (10, "9999"), (9999, "9999")):
            self.say(desk, f"days {day}", told)
            self.say(desk, f"tell {day}", "sound")
        self.say(desk, "cable 9999", "back 2; 10 x 1; 10 x 1; 20 x 1/2")
        self.say(desk, "back", "ok")
        self.say(desk, "days 5", "5 9 9999")

    def test_long_numbers(self):
        forty = "9" * 40
        desk = Desk(EVEN)
        self.say(desk, f"enter 0 {forty} {forty} 1", "ok")
        self.say(desk, f"enter 1 {forty}/{'9' * 39}8 1/{forty} 0", "ok")
        self.say(desk, f"sound 2 {forty}", "ok")
        for row in (f"enter 3 9{forty} 1 1", f"enter 3 1 9{forty} 1", f"enter 3 1 1 9{forty}", f"enter 3 1/9{forty} 1 1",
                    f"enter 3 9{forty}/2 1 1", f"sound 3 9{forty}", f"pair 3 9{forty}", f"mend 3 0 1 9{forty}"):
            refused(self, "NoRow", desk.say, row)
        self.say(desk, "days 0", "0 1 2")
        refused(self, "NoPlace", desk_of_two().say, f"pair 17 {forty}")
        refused(self, "NoLength", desk.say, f"mend 0 0 1 {forty}")
        self.assertEqual(len(desk.say("kind 1").split()), 2)

    def test_all_that_long_readings_tell(self):
        # Places and drags by readings of forty figures are written out, however long they are.
        rand = chance(152)
        cable = (tuple((900 + k, (997 - k, 990 - 7 * k)) for k in range(1, 13)), (997, 991))
        whole, back = all_drag(cable), Fraction(997, 991)

        def near(number):
            bottom = rand.randint(10 ** 34, 10 ** 35)
            return Fraction(int(number * bottom), bottom)

        desk, book = Desk(cable), Book(cable)
        sound = frac(back + whole)
        rows = ((near(whole * Fraction(7, 20)), near(whole * Fraction(7, 10)), Fraction(*sound)),
                (near(whole * Fraction(9, 20)), near(whole * Fraction(1, 2)), near(back + whole * Fraction(9, 10))))
        for day, readings in enumerate(rows):
            readings = tuple(map(frac, readings))
            self.say(desk, enter_row(day, readings), "ok")
            book.enter(day, readings)
        self.assertEqual([desk.say(f"kind {day}").split()[0] for day in (0, 1)], ["one", "two"])
        self.assertEqual(desk.say("tell 0").split()[0], "pairs")
        self.assertGreater(len(desk.say("tell 0")), 500)
        for day in (0, 1):
            self.assertEqual(all_told(desk, (day,)), by_functions(book, day))
            self.say(desk, f"paper {day}", "holds")


def desk_of_two():
    desk = Desk(EVEN)
    desk.say("enter 17 19 19 30")
    return desk


class Rows(unittest.TestCase):
    def test_written_as_they_should_be(self):
        for row in ROWS:
            try:
                self.assertIsInstance(Desk(EVEN).say(row), str)
            except EarthError as caught:
                self.assertNotEqual(type(caught).__name__, "NoRow", row)

    def no(self, row):
        desk = desk_of_two()
        desk.say("enter 5 5 27 32")
        refused(self, "NoRow", desk.say, row)
        told = [desk.say(asked) for asked in ("cable 9999", "days 0", "kind 5", "kind 17", "tell 17", "back", "days 0")]
        self.assertEqual(told, ["back 2; 10 x 1; 10 x 1; 10 x 1", "5 17", "one 4 1", "two", "pairs 4 17", "ok", "17"], row)

    def test_blanks_and_line_ends(self):
        for row in ROWS:
            tried = [row + " ", " " + row, row + "\n", "\n" + row, row + " x", row + " 1", "x " + row]
            if " " in row:
                tried += [row.replace(" ", "  ", 1), row.replace(" ", "\n"), row.replace(" ", "")]
                tried += ["  ".join(row.rsplit(" ", 1)), row.rsplit(" ", 1)[0], row.rsplit(" ", 1)[0] + " ", row.split(" ", 1)[1]]
            for other in tried:
                self.no(other)
        for row in ("", " ", "  ", "\n", " \n"):
            self.no(row)

    def test_words(self):
        for row in ROWS:
            word, *rest = row.split(" ")
            for other in (word.upper(), word.title(), word + "s", word[:-1], word + word, "", "say", "none", "ok", "5"):
                self.no(" ".join([other] + rest))
        for row in ("quit", "help", "many 5", "one 5", "wrong 5", "cover 5", "holds", "enter", "sound", "mend", "leaks 5"):
            self.no(row)

    def test_numbers(self):
        bad = ("05", "00", "-1", "+1", "-0", "1234567890", "0123456789", "1000000000", "5.0", "5/1", "5/2", "x", "five", "1e3", "0x1", "1_0",
               "(5)", "5,", "\n5", "5\n", "~", "None", "True")
        for row in ROWS:
            word, *rest = row.split(" ")
            many = {"back": 0, "mend": 3}.get(word, 1)
            for at in range(many):
                for other in bad:
                    self.no(" ".join([word] + rest[:at] + [other] + rest[at + 1:]))

    def test_fractions(self):
        bad = ("05", "00", "-1", "+1", "5/1", "0/1", "0/2", "5/0", "2/4", "6/3", "5/05", "05/2", "5/", "/5", "/", "5//2", "5/2/1", "5/-2", "-5/2",
               "1.5", "x", "5/x", "x/5", "1 /2", "1/ 2", "\n5", "5\n", "None", "1" * 41, "1/" + "1" * 41, "1" * 41 + "/2", "1e3")
        for row, places in (("enter 8 18 16 20", (2, 3, 4)), ("sound 8 32", (2,)), ("mend 8 0 7 5/3", (4,)), ("pair 17 4", (2,))):
            words = row.split(" ")
            for at in places:
                for other in bad:
                    self.no(" ".join(words[:at] + [other] + words[at + 1:]))

    def test_no_texts(self):
        for odd in ODD + (b"back", b"", ["back"], ("back",), ("kind", 5), None, Same(), Unlike(), {"back": 1}, 5):
            if not isinstance(odd, str):
                self.no(odd)

    def test_ahead_of_all_refusals(self):
        for row in ("enter 10000 x 1 1", "enter 10000 0 0", "strike 10000 1", "mend 10000 99 0 2/4", "kind 10000 1", "pair 10000 x",
                    "pair 4 99/1", "sound 10000 00", "back 1"):
            self.no(row)
        refused(self, "NoRow", Desk(EVEN).say, "back 1")


class Refused(unittest.TestCase):
    def test_no_desk(self):
        for odd in NO_CABLES:
            refused(self, "NoCable", Desk, odd)

    def test_days_beyond(self):
        for day in ("10000", "10001", "99999", "999999999"):
            desk = desk_of_two()
            for row in [f"{word} {day}" for word in QUESTIONS + ("strike",)] + [
                    f"pair {day} 4", f"pair {day} 99", f"enter {day} 1 1 1", f"enter {day} 0 0 0", f"sound {day} 1", f"mend {day} 0 1 1",
                    f"mend {day} 99 0 0"]:
                refused(self, "NoNumber", desk.say, row)
        for day in ("9999", "0", "9"):
            desk = desk_of_two()
            for word in OF_READINGS:
                refused(self, "NoDeed", desk.say, f"{word} {day} 99" if word == "pair" else f"{word} {day}")
            self.assertEqual(desk.say(f"sound {day} 32"), "ok")
            self.assertEqual(desk.say(f"kind {day}"), "sound")

    def test_as_the_functions_refuse(self):
        desk = desk_of_two()
        for row, name in (
                ("enter 17 0 1 1", "NoDay"), ("enter 3 0 1 1", "NoDay"), ("enter 3 1 0 1", "NoDay"), ("enter 17 1 1 1", "NoDeed"),
                ("sound 17 1", "NoDeed"), ("strike 3", "NoDeed"), ("mend 3 3 1 1", "NoNumber"), ("mend 3 999999999 0 0", "NoNumber"),
                ("mend 3 0 0 1", "NoLength"), ("mend 3 0 1000 1", "NoLength"), ("mend 3 0 999999999 1", "NoLength"),
                ("mend 3 0 1 0", "NoLength"), ("mend 3 0 1 1000", "NoLength"), ("mend 3 0 1 1/1000", "NoLength")):
            before = all_told(desk, (3, 17))
            refused(self, name, desk.say, row)
            self.assertEqual(all_told(desk, (3, 17)), before)
        self.assertEqual(desk.say("back"), "ok")
        refused(self, "NoBack", desk.say, "back")

    def test_what_is_refused_is_not_taken_back(self):
        desk = Desk(EVEN)
        desk.say("sound 5 32")
        for row in ("sound 5 32", "enter 10000 1 1 1", "strike 6", "mend 0 7 1 1", "kind 6", "nothing", "enter 6 0 0 0", ""):
            with self.assertRaises(EarthError):
                desk.say(row)
        self.assertEqual(desk.say("back"), "ok")
        self.assertEqual(desk.say("days 5"), "none")
        refused(self, "NoBack", desk.say, "back")


class ByChance(unittest.TestCase):
    def test_behind_deeds_mends_and_deeds_taken_back(self):
        rand = chance(151)
        kinds = set()
        for _ in range(8):
            cable = small_cable(rand, rand.randint(1, 4))
            desk, book = Desk(cable), Book(cable)
            places = [place for place, _ in small_leaks(rand, cable, 2)]
            for _ in range(30):
                day = rand.choice((0, 1, 2, 3, 7, 9999))
                word = rand.choice(("enter", "enter", "enter", "strike", "mend", "back"))
                try:
                    if word == "enter":
                        leaks = [leak for leak in zip(places, [drag for _, drag in small_leaks(rand, cable, 2)]) if rand.random() < 0.7]
                        readings = sound_day(book.cable(day)) if rand.random() < 0.2 else day_of(cable, tuple(leaks))
                        row, deed = enter_row(day, readings), lambda: book.enter(day, readings)
                    elif word == "strike":
                        row, deed = f"strike {day}", lambda: book.strike(day)
                    elif word == "mend":
                        number, length = rand.randrange(len(cable[0])), (rand.randint(1, 9), (rand.randint(1, 9), 1))
                        row, deed = f"mend {day} {number} {length[0]} {length[1][0]}", lambda: book.mend(day, number, length)
                    else:
                        row, deed = "back", book.back
                    deed()
                except EarthError as caught:
                    refused(self, type(caught).__name__, desk.say, row)
                else:
                    self.assertEqual(desk.say(row), "ok")
                asked = rand.choice((0, 1, 2, 3, 7, 9999, day))
                told = all_told(desk, (asked,))
                self.assertEqual(told, by_functions(book, asked))
                self.assertEqual(told, all_told(desk, (asked,)))
                kinds.update(answer.split()[0] for answer in told)
        self.assertTrue({"sound", "one", "two", "wrong", "pairs", "curve", "clash", "none", "holds", "NoPair", "NoDay", "NoDeed",
                         "NoPlace"} <= kinds, kinds)
        self.assertNotIn("no", kinds)

    def test_two_desks_by_turns(self):
        desks = Desk(EVEN), Desk(CABLE), Desk(EVEN)
        rows = ("sound 3 32", "mend 2 0 9 1/2", "enter 4 19 19 30", "strike 3", "back", "enter 8 5 27 32", "back", "back")
        alone = []
        for cable in (EVEN, CABLE, EVEN):
            desk = Desk(cable)
            alone.append([(desk.say(row), all_told(desk, (2, 3, 4, 8))) for row in rows])
        told = [[], [], []]
        for row in rows:
            for at, desk in enumerate(desks):
                told[at].append((desk.say(row), all_told(desk, (2, 3, 4, 8))))
        self.assertEqual(told, alone)


if __name__ == "__main__":
    unittest.main()
