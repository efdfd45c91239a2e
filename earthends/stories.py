"""Stories: two leaks parted by one cut behind another."""

from earthends.cables import drag_to, steps_ahead
from earthends.cutting import cover_within, leaks_parted, parts
from earthends.days import day_of, is_day, kind_of
from earthends.errors import NoDay, NoDeed
from earthends.fractions import plus
from earthends.leaks import moved
from earthends.pairs import curve_of, pair_of
from earthends.runs import common_run, has_pair, has_some, marks_of, parted_run, piece_run


def piece_of(cable, piece):
    """The cable of a piece."""
    return (cable[0][piece[0]:piece[1]], cable[1])


def days_by(cable, piece, splice, leaks):
    """The days of both parts of a piece cut at a splice, by leaks that all lie in it."""
    here = piece_of(cable, piece)
    own = moved(leaks, -steps_ahead(cable, piece[0]))
    at = splice - piece[0]
    west, east = parts(here, at)
    west_leaks, east_leaks = leaks_parted(here, own, at)
    return (day_of(west, west_leaks), day_of(east, east_leaks))


class Story:
    """The story of a day of two whose leaks keep their drags."""

    def __init__(self, cable, day):
        self.curve = curve_of(cable, day)
        self.marks = marks_of(cable, self.curve)
        self.whole = cable
        self.piece = (0, len(cable[0]))
        self.told = 0
        self.pair = None

    def cut(self):
        """The splice to be cut next, None at the end."""
        if self.pair is not None:
            return None
        cuts, nears = cover_within(self.marks, self.piece)
        # In the middle, so that either side is left with no more than half of the others.
        return cuts[len(cuts) // 2] if cuts else None

    def tell(self, west, east):
        """Go on by the days of the west and the east part of the piece."""
        splice = self.cut()
        if splice is None:
            raise NoDeed("the story is at its end")
        if not is_day(west) or not is_day(east):
            raise NoDay("not a day")
        pair = self.parted_pair(splice, west, east)
        piece = self.next_piece(splice, west, east)
        if pair is None and piece is None:
            raise NoDay("not the days of both parts")
        self.told += 1
        self.pair = pair
        self.piece = self.piece if piece is None else piece

    def many(self):
        """How many cuts were told."""
        return self.told

    def leaks(self):
        """Both leaks, None as long as they aren't parted."""
        return self.pair

    def lengths(self):
        """The numbers of all lengths that have both leaks of some pair that is left."""
        if self.pair is not None:
            return ()
        numbers = list(range(self.piece[0], self.piece[1]))
        return tuple([number for number in numbers if self.has_both((number, number + 1))])

    def has_both(self, piece):
        """Whether some pair that is left has both leaks in a piece of the piece."""
        return has_some(piece_run(self.marks, piece))

    def makes_days(self, splice, pair, west, east):
        """Whether a pair makes these days of the parts."""
        return days_by(self.whole, self.piece, splice, pair) == (west, east)

    def parted_pair(self, splice, west, east):
        """The pair that is left, is parted by this splice and makes these days, None without one."""
        first = self.piece[0]
        kind = kind_of(piece_of(self.whole, (first, splice)), west)
        if kind[0] != "one":
            return None
        near = drag_to(self.whole, plus(kind[1][0], (steps_ahead(self.whole, first), 1)))
        left = common_run(piece_run(self.marks, self.piece), parted_run(self.marks, splice))
        if not has_pair(left, near):
            return None
        pair = pair_of(self.whole, self.curve, near)
        return pair if self.makes_days(splice, pair, west, east) else None

    def next_piece(self, splice, west, east):
        """The part that has both leaks by these days, None where no pair that is left makes them so."""
        first, behind = self.piece
        for piece in ((first, splice), (splice, behind)):
            low, high = piece_run(self.marks, piece)
            # All pairs with both leaks in one part make the same days of the parts: one of them is asked.
            if has_some((low, high)) and self.makes_days(splice, pair_of(self.whole, self.curve, high), west, east):
                return piece
        return None
