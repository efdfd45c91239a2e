"""What the tests share: things of any kind, plain oracles, and how a refusal is asked for."""

import random
from fractions import Fraction
from math import gcd

from earthends import errors

CLASSES = (
    "NoNumber", "NoCable", "NoDrag", "NoText", "NoLeaks", "NoStretch", "NoWord", "NoReading", "NoPlace",
    "NoDay", "NoPair", "NoSplice", "NoDays", "NoPlaces", "NoLength", "NoDeed", "NoBack", "NoRow",
)


class Thing:
    pass


def nested(depth):
    x = 1
    for _ in range(depth):
        x = (x, 1)
    return x


# None of these is a fraction, a cable, leaks with a leak, a stretch, a word, a reading or a place.
ODD = (
    None, True, False, 0, 1, -1, 10 ** 60, "", "1", "1/2", "back 0", b"", b"west free", [], [1, 2], [(1, 1)], (1,),
    (1, 2, 3), {}, {"a": 1}, {1: 2}, {1, 2}, set(), frozenset(), Thing(), Thing, len, range(3), nested(10), [[[[]]]],
    (True, 1), (1, True), (False, 1), (0, True), (True, True), ("1", "2"), ("1", 2), (1, "2"), (None, None), (1, None),
    (None, 1), ([1], [2]), (1, [2]), ([1], 2), ((1, 1), (1, 1)), ((1, 1), 1), ((), ()), ({}, {}), (b"1", b"2"),
    (2, 4), (-2, 4), (0, 2), (0, 0), (1, 0), (-1, 0), (1, -2), (-1, -2), (0, -1), (3, 3), (10 ** 59, 10), (1, 2, 1),
    [1, 2], [0, 1], "12", ("a", "b", "c"), (None, None, None),
)


def frac(f):
    f = Fraction(f)
    return (f.numerator, f.denominator)


def num(pair):
    return Fraction(pair[0], pair[1])


def is_told(pair):
    """Whether a told fraction is a tuple of two plain ints in lowest terms."""
    return (type(pair) is tuple and len(pair) == 2 and type(pair[0]) is int and type(pair[1]) is int
            and pair[1] >= 1 and gcd(pair[0], pair[1]) == 1)


def refused(case, name, function, *arguments):
    """Ask for the refusal of this name, caught by its own class and the bases, and by no other class."""
    own = getattr(errors, name)
    try:
        told = function(*arguments)
    except Exception as caught:
        case.assertIs(type(caught), own, (function, arguments, caught))
        case.assertIsInstance(caught, errors.EarthError)
        case.assertIsInstance(caught, ValueError)
        for other in CLASSES:
            if other != name:
                case.assertNotIsInstance(caught, getattr(errors, other))
        return caught
    case.fail(f"{name} was not raised by {function.__name__}{arguments!r}, which told {told!r}")


def chance(seed):
    """Numbers by chance, the same each time."""
    return random.Random(seed)


def some_cable(rand, most=12):
    lengths = tuple(
        (rand.choice((1, 2, 7, 100, 999, rand.randint(1, 999))), frac(Fraction(rand.randint(1, 999), rand.randint(1, 999))))
        for _ in range(rand.randint(1, most)))
    return (lengths, frac(Fraction(rand.randint(0, 999), rand.randint(1, 999))))


def all_steps(cable):
    return sum(steps for steps, each in cable[0])


def all_drag(cable):
    return sum((steps * num(each) for steps, each in cable[0]), Fraction(0))


def west_drag(cable, place):
    """The drag west of a place, by the ends of each length."""
    drag, start = Fraction(0), 0
    for steps, each in cable[0]:
        drag += max(Fraction(0), min(place - start, steps)) * num(each)
        start += steps
    return drag


def splice_steps(cable):
    return [all_steps((cable[0][:k], None)) for k in range(1, len(cable[0]))]


def some_place(rand, cable):
    whole = all_steps(cable)
    bottom = rand.randint(1, 50)
    anywhere = Fraction(rand.randint(0, whole * bottom), bottom)
    return frac(rand.choice([0, whole, anywhere, anywhere, anywhere] + splice_steps(cable)))


def replaced(x, at, part):
    """The tuple x with another part at one place."""
    return x[:at] + (part,) + x[at + 1:]
