"""Exact fractions: tuples (TOP, BOTTOM) of whole numbers in lowest terms, BOTTOM from 1 on."""

from earthends.errors import NoNumber

ZERO = (0, 1)


def is_whole(x):
    """Whether x, of any kind, is a whole number: truths are none."""
    return isinstance(x, int) and not isinstance(x, bool)


def is_tuple_of(x, many):
    """Whether x, of any kind, is a tuple of so many parts."""
    return isinstance(x, tuple) and len(x) == many


def common_divisor(one, other):
    """The greatest whole number that divides both."""
    while other != 0:
        one, other = other, one % other
    return abs(one)


def is_fraction(x):
    """Whether x, of any kind, is a fraction."""
    if not is_tuple_of(x, 2) or not is_whole(x[0]) or not is_whole(x[1]):
        return False
    return x[1] > 0 and common_divisor(x[0], x[1]) == 1


def is_from_zero(x):
    """Whether x, of any kind, is a fraction from 0 on."""
    return is_fraction(x) and x[0] >= 0


def is_above_zero(x):
    """Whether x, of any kind, is a fraction above 0."""
    return is_fraction(x) and x[0] > 0


def is_up_to(x, most):
    """Whether x, of any kind, is a fraction from 0 to this one."""
    return is_from_zero(x) and not below(most, x)


def in_lowest_terms(top, bottom):
    """The fraction of two whole numbers, the bottom not 0."""
    shared = common_divisor(top, bottom)
    if bottom < 0:
        shared = -shared
    return (top // shared, bottom // shared)


def need_fractions(a, b):
    """Refuse what is no fraction in either place."""
    if not is_fraction(a) or not is_fraction(b):
        raise NoNumber("not a fraction")


def fraction(top, bottom):
    """The fraction of two whole numbers."""
    if not is_whole(top) or not is_whole(bottom):
        raise NoNumber("not a whole number")
    if bottom == 0:
        raise NoNumber("the bottom is 0")
    return in_lowest_terms(top, bottom)


def plus(a, b):
    """Both added."""
    need_fractions(a, b)
    return in_lowest_terms(a[0] * b[1] + b[0] * a[1], a[1] * b[1])


def minus(a, b):
    """The first one less the second."""
    need_fractions(a, b)
    return in_lowest_terms(a[0] * b[1] - b[0] * a[1], a[1] * b[1])


def times(a, b):
    """Both multiplied."""
    need_fractions(a, b)
    return in_lowest_terms(a[0] * b[0], a[1] * b[1])


def over(a, b):
    """The first one divided by the second."""
    need_fractions(a, b)
    if b[0] == 0:
        raise NoNumber("divided by 0")
    return in_lowest_terms(a[0] * b[1], a[1] * b[0])


def below(a, b):
    """Whether the first one is less than the second."""
    need_fractions(a, b)
    return a[0] * b[1] < b[0] * a[1]


def lesser(a, b):
    """The lesser one of both."""
    return a if below(a, b) else b


def whole_root(number):
    """The greatest whole number whose square is no more than this one, from 0 on."""
    if number == 0:
        return 0
    # A guess above the root only falls on its way there, about halving the wrong figures each time.
    guess = 1 << ((number.bit_length() + 1) // 2)
    better = (guess + number // guess) // 2
    while better < guess:
        guess = better
        better = (guess + number // guess) // 2
    return guess


def root(a):
    """The fraction from 0 on whose square this one is, None where there is none."""
    if not is_fraction(a):
        raise NoNumber("not a fraction")
    if a[0] < 0:
        return None
    # In lowest terms a fraction is a square just where its top and its bottom are.
    top = whole_root(a[0])
    bottom = whole_root(a[1])
    if top * top != a[0] or bottom * bottom != a[1]:
        return None
    return (top, bottom)


def roots_of(square, single, free):
    """The growing fractions w with square w w + single w + free = 0, where not all three are 0."""
    if square == ZERO:
        return [] if single == ZERO else [minus(ZERO, over(free, single))]
    spread = root(minus(times(single, single), times((4, 1), times(square, free))))
    if spread is None:
        return []
    twice = times((2, 1), square)
    one = over(minus(minus(ZERO, single), spread), twice)
    other = over(minus(spread, single), twice)
    if one == other:
        return [one]
    return [one, other] if below(one, other) else [other, one]
