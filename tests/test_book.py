import unittest
from itertools import permutations

from earthends.book import Book
from earthends.days import day_of
from earthends.tellings import clash_of, telling
from helpers import (
    CABLE, NO_CABLES, NO_DAYS, NO_LENGTHS, NO_NUMBERS, chance, day_by, refused, replaced, small_cable, small_leaks, sound_day,
)

EVEN = (((10, (1, 1)),) * 3, (2, 1))
SOUND = sound_day(EVEN)
LENGTH = (7, (5, 3))
NO_DATES = NO_NUMBERS + (10000, 10001)


def one(place, drag):
    return day_by(EVEN, place, 30 - place, drag)


def two(west, drag, east, other):
    return day_of(EVEN, (((west, 1), (drag, 1)), ((east, 1), (other, 1))))


class Model:
    """A book as a plain list of deeds, all that is told gone through anew."""

    def __init__(self, cable):
        self.first, self.deeds = cable, []

    def mends(self, day):
        return [deed[1:] for deed in self.deeds if deed[0] == "mend" and deed[1] <= day]

    def readings(self):
        told = {}
        for word, day, *rest in self.deeds:
            if word == "enter":
                told[day] = rest[0]
            elif word == "strike":
                del told[day]
        return told

    def cable(self, day):
        lengths = list(self.first[0])
        for number in range(len(lengths)):
            here = [(start, at, length) for at, (start, other, length) in enumerate(self.mends(day)) if other == number]
            if here:
                lengths[number] = max(here)[2]
        return (tuple(lengths), self.first[1])

    def days(self, day):
        readings = self.readings()
        return tuple((other, readings[other]) for other in sorted(readings) if self.mends(other) == self.mends(day))

    def telling(self, day):
        rows = self.days(day)[:12]
        told = telling(self.cable(day), tuple(readings for _, readings in rows))
        return ("curve", rows[told[1]][0]) if told[0] == "curve" else told

    def clash(self, day):
        rows = self.days(day)[:12]
        return tuple(rows[at][0] for at in clash_of(self.cable(day), tuple(readings for _, readings in rows)))


def told_of(book, days):
    return [(book.cable(day), book.days(day), book.telling(day), book.clash(day)) for day in days]


class Deeds(unittest.TestCase):
    def test_a_new_book(self):
        book = Book(CABLE)
        for day in (0, 1, 9999):
            self.assertEqual(told_of(book, [day]), [(CABLE, (), ("sound",), ())])
        refused(self, "NoBack", book.back)

    def test_deeds_tell_nothing(self):
        book = Book(EVEN)
        self.assertIsNone(book.enter(3, SOUND))
        self.assertIsNone(book.strike(3))
        self.assertIsNone(book.mend(3, 0, LENGTH))
        self.assertIsNone(book.back())

    def test_entered_in_whatever_turn(self):
        rows = ((0, one(4, 1)), (9999, one(22, 2)), (17, SOUND), (5, two(4, 3, 22, 5)))
        for turn in permutations(rows):
            book = Book(EVEN)
            for day, readings in turn:
                book.enter(day, readings)
            for day in (0, 5, 6, 9999):
                self.assertEqual(book.days(day), tuple(sorted(rows, key=lambda row: row[0])))
                self.assertEqual(book.telling(day), ("pairs", (((4, 1), (22, 1)),)))
                self.assertEqual(book.clash(day), ())

    def test_struck_and_entered_again(self):
        book = Book(EVEN)
        book.enter(3, one(4, 1))
        book.strike(3)
        self.assertEqual(book.days(3), ())
        book.enter(3, one(5, 1))
        self.assertEqual(book.days(3), ((3, one(5, 1)),))
        self.assertEqual(book.telling(3), ("one", (5, 1)))

    def test_back(self):
        book = Book(EVEN)
        told = []
        deeds = ((book.enter, 3, one(4, 1)), (book.strike, 3), (book.enter, 3, one(5, 2)), (book.mend, 2, 1, LENGTH),
                 (book.enter, 1, SOUND), (book.mend, 2, 1, (8, (1, 1))), (book.strike, 3), (book.mend, 0, 0, LENGTH))
        for deed, *rest in deeds:
            told.append(told_of(book, range(6)))
            deed(*rest)
        for before in told[::-1]:
            self.assertIsNone(book.back())
            self.assertEqual(told_of(book, range(6)), before)
        refused(self, "NoBack", book.back)
        refused(self, "NoBack", book.back)
        book.enter(3, SOUND)
        book.back()
        refused(self, "NoBack", book.back)
        self.assertEqual(book.days(3), ())

    def test_readings_of_any_day_are_entered(self):
        # Also wrong ones: they clash.
        book = Book(EVEN)
        book.enter(1, SOUND)
        book.enter(2, day_by(EVEN, 20, 20, 1))
        self.assertEqual((book.telling(1), book.clash(1)), (("clash",), (2,)))


class Mends(unittest.TestCase):
    def test_the_cable_of_a_day(self):
        book = Book(EVEN)
        lengths = [(k, (1, 1)) for k in range(1, 5)]
        book.mend(10, 1, lengths[0])
        book.mend(5, 1, lengths[1])
        book.mend(5, 0, lengths[2])
        book.mend(9999, 2, lengths[3])
        first, back = EVEN
        self.assertEqual(book.cable(0), EVEN)
        self.assertEqual(book.cable(4), EVEN)
        self.assertEqual(book.cable(5), ((lengths[2], lengths[1], first[2]), back))
        self.assertEqual(book.cable(9), ((lengths[2], lengths[1], first[2]), back))
        self.assertEqual(book.cable(10), ((lengths[2], lengths[0], first[2]), back))
        self.assertEqual(book.cable(9998), ((lengths[2], lengths[0], first[2]), back))
        self.assertEqual(book.cable(9999), ((lengths[2], lengths[0], lengths[3]), back))

    def test_the_one_entered_last(self):
        book = Book(EVEN)
        lengths = [(k, (1, 1)) for k in (5, 9, 3)]
        for many, length in enumerate(lengths, 1):
            book.mend(7, 1, length)
            self.assertEqual(book.cable(7), (replaced(EVEN[0], 1, length), EVEN[1]))
        for length in lengths[1::-1]:
            book.back()
            self.assertEqual(book.cable(7), (replaced(EVEN[0], 1, length), EVEN[1]))
        # A mend of another number on this day, or of this number on an earlier one, doesn't count.
        book.mend(7, 2, LENGTH)
        book.mend(6, 1, LENGTH)
        self.assertEqual(book.cable(7), ((EVEN[0][0], lengths[0], LENGTH), EVEN[1]))

    def test_spells(self):
        book = Book(EVEN)
        for day in (0, 4, 5, 6, 9, 10, 11, 9999):
            book.enter(day, SOUND)
        everything = book.days(0)
        book.mend(5, 0, LENGTH)
        book.mend(10, 0, EVEN[0][0])
        for day, kept in ((0, (0, 4)), (4, (0, 4)), (3, (0, 4)), (5, (5, 6, 9)), (7, (5, 6, 9)), (9, (5, 6, 9)), (10, (10, 11, 9999)),
                          (5000, (10, 11, 9999)), (9999, (10, 11, 9999))):
            self.assertEqual(book.days(day), tuple((other, SOUND) for other in kept))
        # As before the mends the cable is that of the begin from day 10 on, but the days are no spell of the first ones.
        self.assertEqual(book.cable(10), EVEN)
        book.back()
        book.back()
        self.assertEqual(book.days(3), everything)

    def test_a_mend_of_a_like_length_parts_spells(self):
        book = Book(EVEN)
        for day in (1, 2, 3):
            book.enter(day, SOUND)
        book.mend(2, 1, EVEN[0][1])
        self.assertEqual([book.days(day) for day in (1, 2, 3)], [((1, SOUND),), ((2, SOUND), (3, SOUND)), ((2, SOUND), (3, SOUND))])
        self.assertEqual(book.cable(3), EVEN)
        # The same one again on the same day parts nothing more.
        book.mend(2, 1, EVEN[0][1])
        self.assertEqual(book.days(2), ((2, SOUND), (3, SOUND)))
        book.mend(0, 0, LENGTH)
        self.assertEqual(book.days(1), ((1, SOUND),))

    def test_late_mends_tell_all_as_if_in_time(self):
        rows = (("enter", 1, one(4, 1)), ("enter", 6, SOUND), ("mend", 3, 0, LENGTH), ("mend", 6, 2, (9, (1, 1))), ("enter", 8, one(7, 2)))
        told = []
        for turn in permutations(rows):
            book = Book(EVEN)
            for word, *rest in turn:
                {"enter": book.enter, "mend": book.mend}[word](*rest)
            told.append(told_of(book, range(10)))
        self.assertTrue(all(other == told[0] for other in told))


class Tellings(unittest.TestCase):
    def test_the_day_for_the_number(self):
        book = Book(EVEN)
        day = two(4, 3, 22, 5)
        book.enter(300, day)
        book.enter(200, day)
        book.enter(100, SOUND)
        self.assertEqual(book.telling(0), ("curve", 200))
        self.assertEqual(book.clash(0), ())
        book.strike(200)
        self.assertEqual(book.telling(0), ("curve", 300))

    def test_clash_by_days(self):
        book = Book(EVEN)
        for day, readings in ((70, one(6, 1)), (60, one(6, 2)), (50, one(5, 1)), (9, SOUND), (8, one(4, 1))):
            book.enter(day, readings)
        self.assertEqual((book.telling(0), book.clash(0)), (("clash",), (8, 50, 60)))

    def test_the_first_twelve(self):
        book = Book(EVEN)
        for day in range(100, 113):
            book.enter(day, one(4, day))
        self.assertEqual(len(book.days(0)), 13)
        self.assertEqual(book.telling(0), ("one", (4, 1)))
        # Of the thirteenth nothing is told, and of an earlier one entered late all is.
        book.strike(112)
        book.enter(112, one(5, 1))
        self.assertEqual(book.telling(0), ("one", (4, 1)))
        self.assertEqual(book.clash(0), ())
        book.enter(9999, day_by(EVEN, 20, 20, 1))
        self.assertEqual(book.telling(0), ("one", (4, 1)))
        book.strike(100)
        self.assertEqual(book.telling(0), ("pairs", (((4, 1), (5, 1)),)))
        book.enter(1, day_by(EVEN, 20, 20, 1))
        self.assertEqual((book.telling(0), book.clash(0)), (("clash",), (1,)))
        self.assertEqual(len(book.days(0)), 14)

    def test_by_the_cable_of_the_spell(self):
        book = Book(EVEN)
        mended = ((LENGTH,) + EVEN[0][1:], EVEN[1])
        readings = day_of(mended, (((2, 1), (3, 1)),))
        book.enter(5, readings)
        self.assertEqual(book.telling(5), ("clash",))
        self.assertEqual(book.clash(5), (5,))
        book.mend(5, 0, LENGTH)
        self.assertEqual(book.telling(5), ("one", (2, 1)))
        self.assertEqual(book.clash(5), ())
        self.assertEqual(book.telling(4), ("sound",))


class Refused(unittest.TestCase):
    def filled(self):
        book = Book(CABLE)
        book.enter(3, sound_day(CABLE))
        book.mend(5, 1, LENGTH)
        book.enter(7, sound_day(CABLE))
        return book

    def test_no_cable(self):
        for odd in NO_CABLES:
            refused(self, "NoCable", Book, odd)

    def test_no_date(self):
        book = self.filled()
        told = told_of(book, range(9))
        for odd in NO_DATES:
            for readings in (sound_day(CABLE), None, odd):
                refused(self, "NoNumber", book.enter, odd, readings)
            refused(self, "NoNumber", book.strike, odd)
            for number, length in ((0, LENGTH), (99, LENGTH), (0, None), (odd, odd)):
                refused(self, "NoNumber", book.mend, odd, number, length)
            for function in (book.cable, book.days, book.telling, book.clash):
                refused(self, "NoNumber", function, odd)
        self.assertEqual(told_of(book, range(9)), told)

    def test_nothing_changes_behind_a_refusal(self):
        book = self.filled()
        told = told_of(book, range(9))
        for odd in NO_DAYS:
            for day in (3, 4):
                refused(self, "NoDay", book.enter, day, odd)
        refused(self, "NoDeed", book.enter, 3, sound_day(CABLE))
        refused(self, "NoDeed", book.enter, 7, sound_day(CABLE))
        for day in (0, 4, 5, 9999):
            refused(self, "NoDeed", book.strike, day)
        for odd in NO_NUMBERS + (3, 12):
            for length in (LENGTH, None, (0, (1, 1)), odd):
                refused(self, "NoNumber", book.mend, 5, odd, length)
        for odd in NO_LENGTHS:
            refused(self, "NoLength", book.mend, 5, 1, odd)
        self.assertEqual(told_of(book, range(9)), told)
        # Of the deeds only those that were done are taken back.
        book.back()
        self.assertEqual(book.days(7), ())
        book.back()
        self.assertEqual(book.cable(7), CABLE)
        book.back()
        self.assertEqual(told_of(book, [3]), [(CABLE, (), ("sound",), ())])
        refused(self, "NoBack", book.back)
        self.assertEqual(told_of(book, [3]), [(CABLE, (), ("sound",), ())])


class ByTurns(unittest.TestCase):
    def some_deed(self, rand, cable):
        """A deed, often one that is refused."""
        day = rand.choice((0, 1, 2, 3, 4, 5, 5000, 9998, 9999))
        word = rand.choice(("enter", "enter", "enter", "strike", "mend", "back"))
        if word == "enter":
            return (word, day, day_of(cable, small_leaks(rand, cable, rand.randint(0, 2))))
        if word == "mend":
            return (word, day, rand.randrange(len(cable[0])), rand.choice((rand.choice(cable[0]), (rand.randint(1, 9), (1, 1)))))
        return (word,) if word == "back" else (word, day)

    def do(self, book, model, deed):
        word, *rest = deed
        if word == "back":
            if not model.deeds:
                refused(self, "NoBack", book.back)
                return
            book.back()
            model.deeds.pop()
        elif word != "mend" and (rest[0] in model.readings()) != (word == "strike"):
            refused(self, "NoDeed", getattr(book, word), *rest)
        else:
            self.assertIsNone(getattr(book, word)(*rest))
            model.deeds.append(deed)

    def test_two_books_by_turns(self):
        rand = chance(101)
        for _ in range(12):
            cable = small_cable(rand, rand.randint(1, 4))
            books = [(Book(cable), Model(cable)) for _ in range(2)]
            for _ in range(40):
                book, model = rand.choice(books)
                self.do(book, model, self.some_deed(rand, cable))
                for book, model in books:
                    days = rand.sample((0, 1, 2, 3, 4, 5, 6, 4999, 5000, 9998, 9999), 2)
                    self.assertEqual(told_of(book, days), told_of(model, days))


if __name__ == "__main__":
    unittest.main()
