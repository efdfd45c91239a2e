"""The checker's claims of a day's leaks, and what its other parts need of a day.

The checker reckons for itself what a day tells, so that it takes nothing because the house erred in the same way.
"""

from earthends.cables import drag_of, is_cable
from earthends.fractions import (
    ZERO, below, is_above_zero, is_from_zero, is_tuple_of, minus, over, plus, times,
)
from earthends.leaks import is_leaks
from earthends.measures import measure
from earthends.stretches import lack_of


def is_readings(x):
    """Whether x, of any kind, is a day."""
    if not is_tuple_of(x, 3) or not is_from_zero(x[2]):
        return False
    without_earth = x[0] is None and x[1] is None
    return without_earth or (is_above_zero(x[0]) and is_above_zero(x[1]))


def is_claim(claim, word, many):
    """Whether a claim, of any kind, has this word, so many parts, and a cable behind the word."""
    if not is_tuple_of(claim, many) or not isinstance(claim[0], str):
        return False
    return claim[0] == word and is_cable(claim[1])


def is_day_claim(claim, word, many):
    """Whether a claim, of any kind, has this word, so many parts, a cable and a day behind the word."""
    return is_claim(claim, word, many) and is_readings(claim[2])


def makes(cable, leaks, day):
    """Whether leaks, of any kind, make a day."""
    if not is_leaks(cable, leaks):
        return False
    return day == tuple([measure(cable, leaks, word) for word in ("west free", "east free", "loop")])


def seen_at_ends(cable, day):
    """(WEST, EAST, EARTH) by a day that begins with fractions, whether leaks make it or not."""
    west_free, east_free, loop = day
    both = minus(loop, cable[1])
    west = over(plus(both, minus(west_free, east_free)), (2, 1))
    return (west, minus(both, west), minus(west_free, west))


def first_word_amiss(cable, day):
    """The first word by which a day is wrong, None where it isn't."""
    if day[0] is None:
        return None if makes(cable, (), day) else "loop"
    seen = seen_at_ends(cable, day)
    west, east, earth = seen
    lack = lack_of(drag_of(cable), seen)
    asked = (
        ("loop", is_from_zero(lack)),
        ("earth", is_above_zero(earth)),
        ("west", is_from_zero(west)),
        ("east", is_from_zero(east)),
        ("lack", not below(times(west, east), times(earth, lack))),
    )
    amiss = [word for word, is_right in asked if not is_right]
    return amiss[0] if amiss else None


def fewest_leaks(cable, day):
    """How few leaks make a day, two at the most; None of a wrong one."""
    if first_word_amiss(cable, day) is not None:
        return None
    if day[0] is None:
        return 0
    return 1 if lack_of(drag_of(cable), seen_at_ends(cable, day)) == ZERO else 2


def sound_holds(claim, paper):
    """Whether the claim that a day is sound is taken."""
    return paper is None and is_day_claim(claim, "sound", 3) and makes(claim[1], (), claim[2])


def one_holds(claim, paper):
    """Whether the claim that one leak makes a day is taken."""
    return paper is None and is_day_claim(claim, "one", 4) and makes(claim[1], (claim[3],), claim[2])


def pair_holds(claim, paper):
    """Whether the claim that leaks at two places make a day is taken, by their drags."""
    if not is_day_claim(claim, "pair", 4) or not is_tuple_of(claim[3], 2) or not is_tuple_of(paper, 2):
        return False
    return makes(claim[1], tuple(zip(claim[3], paper)), claim[2])


def wrong_holds(claim, paper):
    """Whether the claim that no leaks make a day is taken, by the first word amiss."""
    if not is_day_claim(claim, "wrong", 3) or not isinstance(paper, str):
        return False
    return first_word_amiss(claim[1], claim[2]) == paper


def leaks_hold(claim, paper):
    """Whether a claim of a day's leaks is taken with its paper, both of any kind."""
    return (
        sound_holds(claim, paper) or one_holds(claim, paper) or pair_holds(claim, paper) or wrong_holds(claim, paper)
    )
