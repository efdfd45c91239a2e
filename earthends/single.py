"""One leak, found by the measures free and earth."""

from earthends.cables import drag_of, drag_to, need_cable, need_place, place_at
from earthends.errors import NoReading, NoWord
from earthends.fractions import ZERO, below, is_from_zero, is_up_to, minus, over, plus, root, times
from earthends.measures import is_end_word, is_free, is_west, near_and_far, reading_of

HALF = (1, 2)


def need_word(word):
    """Refuse what is no word of a measure free or earth."""
    if not is_end_word(word):
        raise NoWord("not the word of a measure free or earth")


def need_reading(reading):
    """Refuse what is no fraction from 0 on."""
    if not is_from_zero(reading):
        raise NoReading("not a reading")


def earth_by(word, reading, west, east):
    """The drag of a leak between these drags by one reading, None where none or more than one makes it."""
    near, far = near_and_far(word, west, east)
    beyond = minus(reading, near)
    if not below(ZERO, beyond):
        return None
    if is_free(word):
        return beyond
    # Led to earth at the far end, the leak and what lies behind it drag less than that alone.
    if not below(beyond, far):
        return None
    return over(times(beyond, far), minus(far, beyond))


def drag_by(cable, word, reading, place):
    """The drag of the leak at a place by one measure, None where none or more than one makes it."""
    need_cable(cable)
    need_word(word)
    need_reading(reading)
    need_place(cable, place)
    west = drag_to(cable, place)
    return earth_by(word, reading, west, minus(drag_of(cable), west))


def near_by_same_end(whole, free, earth):
    """The drag from an end to the leak by both measures at this end: the lesser root, as the leak is before `earth`."""
    half = root(times(minus(free, earth), minus(whole, earth)))
    return None if half is None else minus(earth, half)


def near_by_other_end(whole, free, earth):
    """The drag from an end to the leak by the measure free at this end and that of earth at the other one."""
    return root(times(free, minus(whole, earth)))


def west_by_both_earth(whole, west, east):
    """The drag from the west end to the leak by both measures of earth."""
    west_less = minus(whole, west)
    east_less = minus(whole, east)
    if west == ZERO or east == ZERO or below(west_less, ZERO) or below(east_less, ZERO):
        return None
    if east_less == ZERO:
        return ZERO
    # Of both roots of the equation this one alone has the leak between the ends.
    share = times(east_less, west)
    mean = root(times(share, times(west_less, east)))
    return None if mean is None else over(times(share, whole), plus(share, mean))


def west_by_free_and_earth(whole, free, earth, read):
    """The drag from the west end to the leak by a measure free and one of earth, told by their words."""
    if is_west(free) == is_west(earth):
        near = near_by_same_end(whole, read[free], read[earth])
    else:
        near = near_by_other_end(whole, read[free], read[earth])
    if near is None or is_west(free):
        return near
    return minus(whole, near)


def west_by_both_free(whole, west, east):
    """The drag from the west end to the leak by both measures free."""
    return times(HALF, plus(whole, minus(west, east)))


def west_by_readings(whole, read):
    """The drag from the west end to the only leak that may make both readings, None without one."""
    free = [word for word in read if is_free(word)]
    earth = [word for word in read if not is_free(word)]
    if len(free) == 2:
        return west_by_both_free(whole, read["west free"], read["east free"])
    if len(earth) == 2:
        return west_by_both_earth(whole, read["west earth"], read["east earth"])
    return west_by_free_and_earth(whole, free[0], earth[0], read)


def earth_by_readings(read, west, east):
    """The drag of the leak between these drags that makes all readings, None without one."""
    told = [earth_by(word, read[word], west, east) for word in read]
    # Where the leak is at an end that is led to earth one measure does not tell its drag, but the other one does.
    for earth in told:
        if earth is not None and all([reading_of(word, (west, east, earth)) == read[word] for word in read]):
            return earth
    return None


def one_leak(cable, word, reading, other, second):
    """The only leak that makes both readings, None without one."""
    need_cable(cable)
    need_word(word)
    need_reading(reading)
    need_word(other)
    if other == word:
        raise NoWord("the same word twice")
    need_reading(second)
    whole = drag_of(cable)
    read = {word: reading, other: second}
    west = west_by_readings(whole, read)
    if west is None or not is_up_to(west, whole):
        return None
    earth = earth_by_readings(read, west, minus(whole, west))
    return None if earth is None else (place_at(cable, west), earth)
