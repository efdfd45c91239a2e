"""The desk: a book kept by rows of words, each answered with a text."""

from earthends.book import Book
from earthends.cabletexts import read_fraction, read_number, show_cable, show_fraction
from earthends.checker import holds
from earthends.cutting import cuts_needed
from earthends.days import kind_of
from earthends.errors import NoDeed, NoRow
from earthends.lamps import lamp_needed
from earthends.pairs import east_span, pair_at, west_span
from earthends.papers import paper_day

NUMBER_FIGURES = 9
FRACTION_FIGURES = 40
DONE = "ok"
NOTHING = "none"


def asked_day(book, day):
    """The cable of a day and its readings."""
    for other, readings in book.days(day):
        if other == day:
            return (book.cable(day), readings)
    raise NoDeed("the day has no readings")


def show_fractions(xs):
    """Fractions with blanks between."""
    return " ".join([show_fraction(x) for x in xs])


def show_dates(dates):
    """Days of the book with blanks between."""
    return " ".join([f"{date}" for date in dates]) if dates else NOTHING


def show_span(span):
    """The least and the greatest place."""
    return " to ".join([show_fraction(place) for place in span])


def say_enter(book, values):
    """Enter readings."""
    day, west, east, loop = values
    book.enter(day, (west, east, loop))
    return DONE


def say_sound(book, values):
    """Enter readings of a day without a way to earth."""
    day, loop = values
    book.enter(day, (None, None, loop))
    return DONE


def say_strike(book, values):
    """Strike readings."""
    book.strike(values[0])
    return DONE


def say_mend(book, values):
    """Mend a length."""
    day, number, steps, drag = values
    book.mend(day, number, (steps, drag))
    return DONE


def say_back(book, values):
    """Take back the last deed."""
    book.back()
    return DONE


def say_cable(book, values):
    """The cable of a day."""
    return "; ".join(show_cable(book.cable(values[0])).split("\n"))


def say_days(book, values):
    """The days with readings of a spell."""
    return show_dates([date for date, readings in book.days(values[0])])


def say_kind(book, values):
    """The kind of a day."""
    cable, readings = asked_day(book, values[0])
    kind = kind_of(cable, readings)
    if kind[0] == "one":
        return f"one {show_fractions(kind[1])}"
    return " ".join(kind)


def say_spans(book, values):
    """The spans of both leaks of a day of two."""
    cable, readings = asked_day(book, values[0])
    return ", ".join([show_span(west_span(cable, readings)), show_span(east_span(cable, readings))])


def say_pair(book, values):
    """Both leaks of a day of two by the west one's place."""
    cable, readings = asked_day(book, values[0])
    return ", ".join([show_fractions(leak) for leak in pair_at(cable, readings, values[1])])


def say_cuts(book, values):
    """How many cuts a day of two needs."""
    cable, readings = asked_day(book, values[0])
    return f"{cuts_needed(cable, readings)}"


def say_lamp(book, values):
    """How many cuts a day of two needs by a lamp."""
    cable, readings = asked_day(book, values[0])
    return f"{lamp_needed(cable, readings)}"


def say_tell(book, values):
    """The telling of a spell."""
    told = book.telling(values[0])
    if told[0] == "one":
        return f"one {show_fraction(told[1])}"
    if told[0] == "curve":
        return f"curve {told[1]}"
    if told[0] == "pairs":
        pairs = ", ".join([show_fractions(pair) for pair in told[1]])
        return f"pairs {pairs}"
    return told[0]


def say_clash(book, values):
    """The days of a least clash of a spell."""
    return show_dates(book.clash(values[0]))


def say_paper(book, values):
    """Whether the checker takes the house's paper of a day's readings."""
    cable, readings = asked_day(book, values[0])
    claim, paper = paper_day(cable, readings)
    return "holds" if holds(claim, paper) else "no"


ANSWERS = {
    "enter": say_enter,
    "sound": say_sound,
    "strike": say_strike,
    "mend": say_mend,
    "back": say_back,
    "cable": say_cable,
    "days": say_days,
    "kind": say_kind,
    "spans": say_spans,
    "pair": say_pair,
    "cuts": say_cuts,
    "lamp": say_lamp,
    "tell": say_tell,
    "clash": say_clash,
    "paper": say_paper,
}
# What stands behind the first word of a row.
KINDS = {
    "enter": ("number", "fraction", "fraction", "fraction"),
    "sound": ("number", "fraction"),
    "strike": ("number",),
    "mend": ("number", "number", "number", "fraction"),
    "back": (),
    "cable": ("number",),
    "days": ("number",),
    "kind": ("number",),
    "spans": ("number",),
    "pair": ("number", "fraction"),
    "cuts": ("number",),
    "lamp": ("number",),
    "tell": ("number",),
    "clash": ("number",),
    "paper": ("number",),
}


def read_word(word, kind):
    """A word as a number or a fraction, None where it isn't written so."""
    if kind == "number":
        return read_number(word, NUMBER_FIGURES)
    return read_fraction(word, FRACTION_FIGURES)


def read_words(words, kinds):
    """The words behind the first one as numbers and fractions."""
    if len(words) != len(kinds):
        raise NoRow("not so many words")
    told = [read_word(word, kind) for word, kind in zip(words, kinds)]
    if None in told:
        raise NoRow("a word that is no number or no fraction")
    return told


class Desk:
    """A desk that keeps a book of a cable."""

    def __init__(self, cable):
        self.book = Book(cable)

    def say(self, row):
        """The answer to a row."""
        if not isinstance(row, str):
            raise NoRow("not a text")
        word, *rest = row.split(" ")
        if word not in ANSWERS:
            raise NoRow("not a word of the desk")
        values = read_words(rest, KINDS[word])
        action = ANSWERS[word]
        return action(self.book, values)
