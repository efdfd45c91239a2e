"""The book: the readings of a cable's days, and its mends."""

from earthends.cables import need_cable
from earthends.days import need_day
from earthends.errors import NoBack, NoDeed, NoNumber
from earthends.fractions import is_whole
from earthends.mending import exchanged, need_length, need_number
from earthends.tellings import MOST_DAYS, clash_of, told_of

LAST_DAY = 9999


def need_date(day):
    """Refuse what is no day of a book."""
    if not is_whole(day) or not 0 <= day <= LAST_DAY:
        raise NoNumber("not a day of a book")


class Book:
    """The book of a cable."""

    def __init__(self, cable):
        need_cable(cable)
        self.first = cable
        self.entered = {}
        self.mends = []
        self.deeds = []

    def enter(self, day, readings):
        """Enter readings for a day."""
        need_date(day)
        need_day(readings)
        if day in self.entered:
            raise NoDeed("the day has readings")
        self.entered[day] = readings
        self.deeds.append(("enter", day, readings))

    def strike(self, day):
        """Strike the readings of a day."""
        need_date(day)
        if day not in self.entered:
            raise NoDeed("the day has no readings")
        self.deeds.append(("strike", day, self.entered[day]))
        del self.entered[day]

    def mend(self, day, number, length):
        """Put another length in the place of that with this number, from a day on."""
        need_date(day)
        need_number(self.first, number)
        need_length(length)
        self.mends.append((day, number, length))
        self.deeds.append(("mend", day, None))

    def back(self):
        """Take back the last deed that isn't taken back."""
        if not self.deeds:
            raise NoBack("there is nothing to take back")
        word, day, readings = self.deeds.pop()
        if word == "enter":
            del self.entered[day]
        elif word == "strike":
            self.entered[day] = readings
        else:
            # Deeds are taken back from the last one on, so the mend is the last of the mends.
            self.mends.pop()

    def cable(self, day):
        """The cable of a day, with all mends from days up to it."""
        need_date(day)
        mended = self.first
        # Sorted by days alone, mends of one day stay as they were entered.
        for start, number, length in sorted(self.mends, key=lambda mend: mend[0]):
            if start <= day:
                mended = exchanged(mended, number, length)
        return mended

    def days(self, day):
        """The days with readings that have the same mends as this day."""
        need_date(day)
        begin = max([start for start, number, length in self.mends if start <= day], default=0)
        end = min([start for start, number, length in self.mends if start > day], default=LAST_DAY + 1)
        return tuple([(other, self.entered[other]) for other in sorted(self.entered) if begin <= other < end])

    def asked(self, day):
        """The days, and their readings, of which a day tells."""
        rows = self.days(day)[:MOST_DAYS]
        return ([other for other, readings in rows], tuple([readings for other, readings in rows]))

    def telling(self, day):
        """What is told of the readings with the same mends as this day."""
        dates, readings = self.asked(day)
        told = told_of(self.cable(day), readings)
        return ("curve", dates[told[1]]) if told[0] == "curve" else told

    def clash(self, day):
        """The growing days of a least clash, () where nothing clashes."""
        dates, readings = self.asked(day)
        return tuple([dates[number] for number in clash_of(self.cable(day), readings)])
