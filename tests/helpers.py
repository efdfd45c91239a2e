"""What the tests share: things of any kind, plain oracles, and how a refusal is asked for."""

import random
from fractions import Fraction
from math import gcd

from earthends import errors
from earthends.days import day_of

CLASSES = (
    "NoNumber", "NoCable", "NoDrag", "NoText", "NoLeaks", "NoStretch", "NoWord", "NoReading", "NoPlace",
    "NoDay", "NoPair", "NoSplice", "NoDays", "NoPlaces", "NoLength", "NoDeed", "NoBack", "NoRow",
)


class Thing:
    pass


class Same:
    """Like everything, so that only its kind tells that it is nothing asked for."""

    def __eq__(self, other):
        return True

    def __ne__(self, other):
        return False

    def __hash__(self):
        return 0


class Unlike:
    """Not to be compared at all."""

    def __eq__(self, other):
        raise TypeError("compared")

    __hash__ = None


def nested(depth):
    x = 1
    for _ in range(depth):
        x = (x, 1)
    return x


# None of these is a fraction, a cable, leaks, a stretch, a word, a reading or a place.
ODD = (
    None, True, False, 0, 1, -1, 10 ** 60, "", "1", "1/2", "back 0", b"", b"west free", [], [1, 2], [(1, 1)], (1,),
    (1, 2, 3), {}, {"a": 1}, {1: 2}, {1, 2}, set(), frozenset(), Thing(), Thing, len, range(3), nested(10), [[[[]]]],
    (True, 1), (1, True), (False, 1), (0, True), (True, True), ("1", "2"), ("1", 2), (1, "2"), (None, None), (1, None),
    (None, 1), ([1], [2]), (1, [2]), ([1], 2), ((1, 1), (1, 1)), ((1, 1), 1), ((), ()), ({}, {}), (b"1", b"2"),
    (2, 4), (-2, 4), (0, 2), (0, 0), (1, 0), (-1, 0), (1, -2), (-1, -2), (0, -1), (3, 3), (10 ** 59, 10), (1, 2, 1),
    [1, 2], [0, 1], "12", ("a", "b", "c"), (None, None, None),
)
WRONG_WORDS = (
    "", " ", "west", "free", "earth", "westfree", "west  free", "west free ", " west free", "West free", "WEST FREE",
    "west Free", "west_free", "free west", "west loop", "Loop", "loop ", "loop free", "north free", "west frees", "west\nfree",
    b"loop", ("west", "free"), ["west free"], ("loop",), {"loop": 1}, {"loop"},
)


def frac(f):
    f = Fraction(f)
    return (f.numerator, f.denominator)


def num(pair):
    return Fraction(pair[0], pair[1])


def is_told(pair):
    """Whether a told fraction is a tuple of two plain ints in lowest terms."""
    return (type(pair) is tuple and len(pair) == 2 and type(pair[0]) is int and type(pair[1]) is int
            and pair[1] >= 1 and gcd(pair[0], pair[1]) == 1)


def refused(case, name, function, *arguments):
    """Ask for the refusal of this name, caught by its own class and the bases, and by no other class."""
    own = getattr(errors, name)
    try:
        told = function(*arguments)
    except Exception as caught:
        case.assertIs(type(caught), own, (function, arguments, caught))
        case.assertIsInstance(caught, errors.EarthError)
        case.assertIsInstance(caught, ValueError)
        for other in CLASSES:
            if other != name:
                case.assertNotIsInstance(caught, getattr(errors, other))
        return caught
    case.fail(f"{name} was not raised by {function.__name__}{arguments!r}, which told {told!r}")


def chance(seed):
    """Numbers by chance, the same each time."""
    return random.Random(seed)


def some_cable(rand, most=12):
    lengths = tuple(
        (rand.choice((1, 2, 7, 100, 999, rand.randint(1, 999))), frac(Fraction(rand.randint(1, 999), rand.randint(1, 999))))
        for _ in range(rand.randint(1, most)))
    return (lengths, frac(Fraction(rand.randint(0, 999), rand.randint(1, 999))))


def all_steps(cable):
    return sum(steps for steps, each in cable[0])


def all_drag(cable):
    return sum((steps * num(each) for steps, each in cable[0]), Fraction(0))


def west_drag(cable, place):
    """The drag west of a place, by the ends of each length."""
    drag, start = Fraction(0), 0
    for steps, each in cable[0]:
        drag += max(Fraction(0), min(place - start, steps)) * num(each)
        start += steps
    return drag


def splice_steps(cable):
    return [all_steps((cable[0][:k], None)) for k in range(1, len(cable[0]))]


def some_place(rand, cable):
    whole = all_steps(cable)
    bottom = rand.randint(1, 50)
    anywhere = Fraction(rand.randint(0, whole * bottom), bottom)
    return frac(rand.choice([0, whole, anywhere, anywhere, anywhere] + splice_steps(cable)))


def replaced(x, at, part):
    """The tuple x with another part at one place."""
    return x[:at] + (part,) + x[at + 1:]


# 15 and 10 and 5 drag 30, over 35 steps.
CABLE = (((10, (3, 2)), (5, (2, 1)), (20, (1, 4))), (7, 3))
NO_CABLES = ODD + ((), list(CABLE), ((), (0, 1)), (CABLE[0], (-1, 1)), (CABLE[0] * 5, (0, 1)), (CABLE[0], (0, 1), 1))
LEAKING = ((18, 1), (16, 1), (20, 1))
NO_FRACTIONS = ((2, 4), (0, 2), (-1, -2), (1, -2), (1, 0), 1, 0, True, False, [1, 1], "1", "1/2", b"", (1,), (1, 1, 1),
                (True, 1), (1, True), {}, (), ((1, 1), 1))
NO_READINGS = NO_FRACTIONS + ((-1, 1), (-1, 10 ** 59))
# Each of these has one thing amiss.
NO_DAYS = tuple(
    [replaced(LEAKING, at, part) for at in range(3) for part in NO_READINGS + (None,)]
    + [replaced(LEAKING, at, (0, 1)) for at in range(2)]
    + [(None, None, part) for part in NO_READINGS + (None,)]
    + [(None, (1, 1), (1, 1)), ((1, 1), None, (1, 1)), (None, (0, 1), (1, 1)), (None, False, (1, 1)), (False, None, (1, 1)),
       (0, 0, (1, 1)), ((), (), (1, 1)), (None, None), LEAKING[:2], LEAKING[1:], LEAKING + ((1, 1),),
       (None, None, (97, 3), None), list(LEAKING), [None, None, (97, 3)], (LEAKING,), (*LEAKING[:2], LEAKING[2:]), ()]) + ODD

NO_NUMBERS = (-1, -2, -10 ** 59, 10 ** 59, True, False, None, "0", "1", b"0", "", (0,), (0, 1), (1, 1), [0], [], {}, {0}, ())
NO_LENGTHS = ODD + (
    (0, (1, 1)), (-1, (1, 1)), (1000, (1, 1)), (True, (1, 1)), (1, (0, 1)), (1, (-1, 1)), (1, (1000, 1)), (1, (1, 1000)),
    (1, (2, 2)), (1, (True, 1)), (1, [1, 1]), [1, (1, 1)], (1, (1, 1), 1), (1,), (), ((1, (1, 1)),), (1, 1), ("1", (1, 1)),
)


def some_leaks(rand, cable, many):
    places = set()
    while len(places) < many:
        places.add(num(some_place(rand, cable)))
    drags = [Fraction(rand.randint(1, 10 ** rand.choice((1, 3, 40))), rand.randint(1, 10 ** rand.choice((1, 2, 40))))
             for _ in places]
    return tuple((frac(place), frac(drag)) for place, drag in zip(sorted(places), drags))


def resistance(edges, start, end):
    """What a net of edges (A, B, DRAG) drags from one node to another, None without a way: Kirchhoff's rule, solved."""
    reached, grown = {start}, True
    while grown:
        more = {a for a, b, _ in edges if b in reached} | {b for a, b, _ in edges if a in reached}
        grown = not more <= reached
        reached |= more
    if end not in reached:
        return None
    nodes = sorted(reached - {end}, key=str)
    rows = {node: {other: Fraction(0) for other in nodes} | {"fed": Fraction(int(node == start))} for node in nodes}
    for a, b, drag in edges:
        for one, other in ((a, b), (b, a)):
            if one in rows:
                rows[one][one] += 1 / drag
                if other in rows:
                    rows[one][other] -= 1 / drag
    for node in nodes:
        row = {key: part / rows[node][node] for key, part in rows[node].items()}
        rows[node] = row
        for other in nodes:
            if other != node and rows[other][node] != 0:
                factor = rows[other][node]
                rows[other] = {key: part - factor * row[key] for key, part in rows[other].items()}
    return rows[start]["fed"]


def reads(cable, leaks, word):
    """The reading of a measure by the net of the cable itself."""
    whole = all_drag(cable)
    drags = sorted({Fraction(0), whole} | {west_drag(cable, num(place)) for place, _ in leaks})
    near, far = (Fraction(0), whole) if word.startswith("west") else (whole, Fraction(0))
    grounded = word.endswith("earth")
    edges = []
    for a, b in zip(drags, drags[1:]):
        ends = ["earth" if grounded and point == far else point for point in (a, b)]
        edges.append((*ends, b - a))
    for place, drag in leaks:
        point = west_drag(cable, num(place))
        if not (grounded and point == far):
            edges.append((point, "earth", num(drag)))
    if word == "loop":
        return num(cable[1]) + resistance(edges, Fraction(0), whole)
    return resistance(edges, near, "earth")


def place_of(cable, drag):
    """The place west of which so much drags, by the ends of each length."""
    place = Fraction(0)
    for steps, each in cable[0]:
        here = max(Fraction(0), min(drag, steps * num(each)))
        place += here / num(each)
        drag -= here
    return place


def small_cable(rand, many):
    """A cable of so many lengths that drag about the same."""
    lengths = tuple((rand.randint(1, 9), frac(Fraction(rand.randint(2, 9), rand.randint(1, 4)))) for _ in range(many))
    return (lengths, frac(Fraction(rand.randint(0, 9), rand.randint(1, 4))))


def small_leaks(rand, cable, many):
    """Leaks through drags of about the cable's own."""
    places = set()
    while len(places) < many:
        places.add(num(some_place(rand, cable)))
    drags = [max(all_drag(cable) // rand.choice((1, 2, 9, 40)), 1) * Fraction(rand.randint(1, 20), rand.randint(1, 9))
             for _ in places]
    return tuple((frac(place), frac(drag)) for place, drag in zip(sorted(places), drags))


def day_by(cable, west, east, earth):
    """The readings by the numbers that the ends see, whether leaks make them or not."""
    west, east, earth = map(Fraction, (west, east, earth))
    return (frac(west + earth), frac(east + earth), frac(num(cable[1]) + west + east))


def sound_day(cable):
    return (None, None, frac(num(cable[1]) + all_drag(cable)))


# Cables of lengths that drag 10 each, by how many there are.
EVEN = tuple((((10, (1, 1)),) * many, (0, 1)) for many in range(13))


def day_with(cable, west, east, share):
    """A day of two by WEST, EAST, and EARTH LACK."""
    return day_by(cable, west, east, share / (all_drag(cable) - Fraction(west) - east))


# Days of CABLE that no leaks make, and days that fewer than two make.
WRONG_DAYS = (
    (None, None, (1, 1)), day_by(CABLE, 15, 16, 2), day_by(CABLE, 15, 15, 0), day_by(CABLE, -1, 15, 2), day_by(CABLE, 15, -1, 2),
    day_by(CABLE, 12, 8, 10),
)
NOT_OF_TWO = (sound_day(CABLE), day_by(CABLE, 16, 14, 2), day_by(CABLE, 0, 30, 2), day_by(CABLE, 30, 0, 2))


class Curve:
    """The pairs that make a day of two, by the drag x from the west end to the west leak."""

    def __init__(self, cable, day):
        self.cable = cable
        self.whole = all_drag(cable)
        west_free, east_free, loop = map(num, day)
        back = num(cable[1])
        earth = (west_free + east_free + back - loop) / 2
        self.west, self.east = west_free - earth, east_free - earth
        self.lack = back + self.whole - loop
        self.share = earth * self.lack
        self.greatest = self.west - self.share / self.east
        self.least_far = self.far(Fraction(0))

    def far(self, x):
        return self.whole - self.east + self.share / (self.west - x)

    def near(self, far):
        return self.west - self.share / (self.east - self.whole + far)

    def places(self, x):
        return (place_of(self.cable, x), place_of(self.cable, self.far(x)))

    def leaks(self, x):
        between = (self.far(x) - x) / self.lack
        west, east = self.places(x)
        return ((frac(west), frac((self.west - x) * between)), (frac(east), frac(self.share / (self.west - x) * between)))

    def samples(self):
        """One x of each run of pairs whose leaks lie alike by the splices and the ends, growing."""
        marks = {Fraction(0), self.greatest}
        for steps in splice_steps(self.cable):
            drag = west_drag(self.cable, steps)
            if drag <= self.greatest:
                marks.add(drag)
            if drag >= self.least_far:
                marks.add(self.near(drag))
        marks = sorted(marks)
        return sorted(marks + [(a + b) / 2 for a, b in zip(marks, marks[1:])])

    def way(self, x):
        """The lengths of both leaks, one at a splice counted to the length west of it."""
        return tuple(sum(steps < place for steps in splice_steps(self.cable)) for place in self.places(x))


def two_at_splices(rand, most):
    """A cable, small, the places of two leaks at its ends and splices, and their day."""
    cable = small_cable(rand, rand.randint(2, most))
    places = sorted(rand.sample([0, all_steps(cable)] + splice_steps(cable), 2))
    drags = [drag for _, drag in small_leaks(rand, cable, 2)]
    return cable, places, day_of(cable, tuple(((place, 1), drag) for place, drag in zip(places, drags)))


def some_two(rand, most=6, lengths=None):
    """A cable, small, and a day of two, the leaks often at ends and splices."""
    cable = small_cable(rand, rand.randint(1, most) if lengths is None else lengths)
    return cable, day_of(cable, small_leaks(rand, cable, rand.choice((2, 2, 2, 3, 6))))


def paths_of(x, path=()):
    """All parts of tuples within tuples, by the way to each, the whole first."""
    yield path, x
    if type(x) is tuple:
        for at, part in enumerate(x):
            yield from paths_of(part, path + (at,))


def put_at(x, path, part):
    """x with another part at the end of this way."""
    return replaced(x, path[0], put_at(x[path[0]], path[1:], part)) if path else part


def spoiled_parts(part):
    """What is never right where this part is: of another kind, with a part more, not in lowest terms, truths for numbers."""
    if type(part) is tuple:
        yield from (list(part), part + (None,), dict(enumerate(part)), frozenset(), str(part), None, 0, True, "", nested(10))
        if len(part) == 2 and all(type(number) is int for number in part):
            yield from ((2 * part[0], 2 * part[1]), (-part[0], -part[1]), (part[0], part[1], 1), part[:1], part[0])
    elif type(part) is int:
        yield from (None, str(part), (part,), [part], {}, -1 - part, b"", Thing(), bool(part), (part, 1))
    elif type(part) is str:
        yield from (None, part.upper(), part + " ", part.encode(), (part,), [part], "", 0, True, "other", {part: part})
    else:
        yield from (False, 0, "", "None", [], {}, (1, 0), (2, 4), [1, 1], (True, 1), Thing(), nested(10))


def spoiled(x):
    """x, each time with one part that is never right there."""
    for path, part in paths_of(x):
        for other in (*spoiled_parts(part), Same(), Unlike()):
            yield put_at(x, path, other)


def check_kinds(case, holds, claim, paper):
    """A claim is taken with its paper, and with neither of them once a part of it is of another kind."""
    case.assertIs(holds(claim, paper), True, (claim, paper))
    for other in spoiled(claim):
        case.assertIs(holds(other, paper), False, (other, paper))
    for other in spoiled(paper):
        case.assertIs(holds(claim, other), False, (claim, other))
    for odd in ODD + ((), [], list(claim), (claim,), (claim, paper), claim[::-1], Same(), Unlike()):
        case.assertIs(holds(odd, paper), False, odd)
        case.assertIs(holds(odd, odd), False, odd)
    for at in range(len(claim)):
        case.assertIs(holds(claim[:at] + claim[at + 1:], paper), False)
        case.assertIs(holds(claim[:at] + (claim[at],) + claim[at:], paper), False)
        for other in range(at):
            turned = replaced(replaced(claim, at, claim[other]), other, claim[at])
            case.assertIs(holds(turned, paper), False, turned)
        for odd in ODD:
            if odd != claim[at]:
                case.assertIs(holds(replaced(claim, at, odd), paper), False, (at, odd))
    case.assertIs(holds(paper, claim), False)
    case.assertIs(holds(claim, claim), False)
    case.assertIs(holds(claim, (paper,)), False)
    case.assertIs(holds(claim, paper), True)
