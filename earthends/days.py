"""Days: tuples (WESTFREE, EASTFREE, LOOP) of readings, and what they tell of the leaks."""

from earthends.cables import drag_of, need_cable, place_at
from earthends.errors import NoDay
from earthends.fractions import ZERO, below, is_above_zero, is_from_zero, is_tuple_of, minus, over, plus, times
from earthends.measures import measure
from earthends.stretches import lack_of

DAY_WORDS = ("west free", "east free", "loop")


def is_day(x):
    """Whether x, of any kind, is a day."""
    if not is_tuple_of(x, 3) or not is_from_zero(x[2]):
        return False
    if x[0] is None and x[1] is None:
        return True
    return is_above_zero(x[0]) and is_above_zero(x[1])


def need_day(day):
    """Refuse what is no day."""
    if not is_day(day):
        raise NoDay("not a day")


def day_of(cable, leaks):
    """The day of a cable with leaks."""
    return tuple([measure(cable, leaks, word) for word in DAY_WORDS])


def numbers_of(cable, day):
    """(WEST, EAST, EARTH) by a day that begins with fractions, whether leaks make it or not."""
    west_free, east_free, loop = day
    earth = over(minus(plus(plus(west_free, east_free), cable[1]), loop), (2, 1))
    return (minus(west_free, earth), minus(east_free, earth), earth)


def word_amiss(lack, numbers):
    """The first word by which no leaks make these numbers, None where some do."""
    west, east, earth = numbers
    if below(lack, ZERO):
        return "loop"
    if not below(ZERO, earth):
        return "earth"
    if below(west, ZERO):
        return "west"
    if below(east, ZERO):
        return "east"
    if below(times(west, east), times(earth, lack)):
        return "lack"
    return None


def kind_of(cable, day):
    """The kind of a day: sound, wrong with its word, one with its leak, or two."""
    need_cable(cable)
    need_day(day)
    if day[0] is None:
        return ("sound",) if day == day_of(cable, ()) else ("wrong", "loop")
    numbers = numbers_of(cable, day)
    lack = lack_of(drag_of(cable), numbers)
    word = word_amiss(lack, numbers)
    if word is not None:
        return ("wrong", word)
    if lack == ZERO:
        return ("one", (place_at(cable, numbers[0]), numbers[2]))
    return ("two",)


def seen_by(cable, day):
    """(WEST, EAST, EARTH) by a day, None of a sound one."""
    kind = kind_of(cable, day)
    if kind[0] == "wrong":
        raise NoDay("a wrong day")
    return None if kind[0] == "sound" else numbers_of(cable, day)
