"""All that is asked of the checker's parts, asked of the whole checker; and things that are no claims."""

import copy
import unittest

import test_checkcuts
import test_checkdays
import test_checklamp
import test_checkleaks
from earthends.checker import holds
from helpers import CABLE, EVEN, NO_CABLES, NO_DAYS, ODD, Same, Unlike, day_with, nested, paths_of, replaced
from test_tellings import EVEN as THIRTY
from test_tellings import SOUND, one, two


class Leaks(test_checkleaks.Leaks):
    holds = staticmethod(holds)


class Cuts(test_checkcuts.Cuts):
    holds = staticmethod(holds)


class Lamp(test_checklamp.Lamp):
    holds = staticmethod(holds)


class Fits(test_checkdays.Fits):
    holds = staticmethod(holds)


class All(test_checkdays.All):
    holds = staticmethod(holds)


class Clash(test_checkdays.Clash):
    holds = staticmethod(holds)


PAIR = ((4, 1), (22, 1))
# One claim of each word, with its paper.
TAKEN = (
    (("sound", CABLE, test_checkleaks.SOUND), None),
    (("one", CABLE, test_checkleaks.ONE_DAY, test_checkleaks.ONE_LEAK), None),
    (("pair", CABLE, test_checkleaks.TWO_DAY, test_checkleaks.PLACES), test_checkleaks.DRAGS),
    (("wrong", CABLE, (None, None, (1, 1))), "loop"),
    (("cuts", EVEN[3], test_checkcuts.TWO_CUTS, 2), ((1, 2), ((10, 1), (12, 1)))),
    (("cuts", EVEN[1], day_with(EVEN[1], 4, 4, 1), 0), ((), ())),
    (("lamp", EVEN[3], test_checklamp.DAY, 2), (test_checklamp.PLAN, test_checklamp.TABLE)),
    (("lamp", EVEN[1], day_with(EVEN[1], 4, 4, 1), 0), ((), ())),
    (("fits", THIRTY, test_checkdays.Fits.DAYS, PAIR), test_checkdays.Fits.DRAGS),
    (("fits", THIRTY, (), ()), ()),
    (("all", THIRTY, (two(4, 3, 22, 5), two(4, 5, 22, 3)), (PAIR,)), (0, 1)),
    (("clash", THIRTY, (one(4, 1), one(5, 1), one(6, 1)), (0, 1, 2)), (((5, 1), (6, 1)), ((4, 1), (6, 1)), ((4, 1), (5, 1)))),
    (("clash", THIRTY, (SOUND, (None, None, (1, 1))), (1,)), ((),)),
)
WORDS = ("sound", "one", "pair", "wrong", "cuts", "lamp", "fits", "all", "clash")


class Anything(unittest.TestCase):
    def test_each_word(self):
        self.assertEqual({claim[0] for claim, _ in TAKEN}, set(WORDS))
        for claim, paper in TAKEN:
            self.assertIs(holds(claim, paper), True, claim)

    def test_no_claim_with_the_paper_or_the_word_of_another(self):
        for at, (claim, paper) in enumerate(TAKEN):
            for other, (second, other_paper) in enumerate(TAKEN):
                if paper != other_paper or claim[0] != second[0]:
                    self.assertIs(holds(claim, other_paper), at == other or paper == other_paper, (claim, other_paper))
                if claim[0] != second[0]:
                    mixed = (second[0],) + claim[1:]
                    # Of a cable of one length no cut is needed, by a lamp neither.
                    alike = {claim[0], second[0]} == {"cuts", "lamp"} and claim[3] == 0
                    self.assertIs(holds(mixed, paper), alike, mixed)

    def test_no_claims(self):
        odds = ODD + ((), [], (()), ((),), ([],), (None,), ("",), ("sound",), "sound", b"sound", {"sound": None}, Same(), Unlike(),
                      ("sound", Same(), Same()), ("one", CABLE, Unlike(), Unlike()), (Same(), CABLE, test_checkleaks.SOUND),
                      (Unlike(), CABLE, test_checkleaks.SOUND), nested(10), [[[[[[[[[[]]]]]]]]]], {"a": {"b": {"c": ({},)}}})
        for odd in odds:
            for paper in odds:
                self.assertIs(holds(odd, paper), False)
            for word in WORDS + ("", "Sound", "two", "curve", "other", "holds"):
                for many in range(5):
                    claim = (word,) + (odd,) * many
                    self.assertIs(holds(claim, odd), False, claim)
                    self.assertIs(holds(claim, None), False, claim)
            for claim, paper in TAKEN:
                self.assertIs(holds(odd, paper), False)
                self.assertIs(holds(claim + (odd,), paper), False)
                self.assertIs(holds((odd,) + claim, paper), False)
                self.assertIs(holds(replaced(claim, 0, odd), paper), repr(odd) == repr(claim[0]))
                # The numbers of two days go in any turn.
                right = repr(odd) == repr(paper) or claim[0] == "all" and repr(odd) == "(1, 0)"
                self.assertIs(holds(claim, odd), right, (claim, odd))

    def test_no_cables_and_no_days(self):
        for claim, paper in TAKEN:
            for odd in NO_CABLES:
                self.assertIs(holds(replaced(claim, 1, odd), paper), False, odd)
            if claim[0] not in ("fits", "all", "clash"):
                for odd in NO_DAYS:
                    self.assertIs(holds(replaced(claim, 2, odd), paper), False, odd)
            else:
                for odd in NO_DAYS:
                    self.assertIs(holds(replaced(claim, 2, claim[2] + (odd,)), paper), False, odd)
                    if claim[2]:
                        self.assertIs(holds(replaced(claim, 2, (odd,) + claim[2][1:]), paper), False, odd)

    def test_other_words(self):
        for claim, paper in TAKEN:
            word = claim[0]
            for other in (word.upper(), word.title(), word + " ", " " + word, word + "s", word[:-1], word.encode(), (word,), [word],
                          {word}, {word: 1}, None, True, 0, ""):
                self.assertIs(holds(replaced(claim, 0, other), paper), False, other)

    def test_too_many_and_too_few_parts(self):
        for claim, paper in TAKEN:
            for many in range(len(claim)):
                self.assertIs(holds(claim[:many], paper), False)
                self.assertIs(holds(claim[many:], paper) and many > 0, False)
            for more in (None, (), paper, claim[-1]):
                self.assertIs(holds(claim + (more,), paper), False)

    def test_what_is_handed_in_stays(self):
        for claim, paper in TAKEN:
            for mixed in (claim, list(claim), replaced(claim, 2, list(claim[2])), replaced(claim, 1, {"a": [claim[1]]})):
                for other in (paper, [paper], {"paper": [paper]}, list(paper) if isinstance(paper, tuple) else paper):
                    before = copy.deepcopy((mixed, other))
                    first = holds(mixed, other)
                    self.assertEqual((mixed, other), before)
                    self.assertIs(holds(mixed, other), first)
                    self.assertIs(first, (mixed, other) == (claim, paper))

    def test_deep_things(self):
        for claim, paper in TAKEN:
            for path, _ in paths_of(claim):
                for deep in (nested(10), [[[[[[[[[[1]]]]]]]]]]):
                    if path:
                        spoiled = replaced(claim, path[0], deep)
                        self.assertIs(holds(spoiled, paper), False)
            if paper is not None:
                self.assertIs(holds(claim, nested(10)), False)


if __name__ == "__main__":
    unittest.main()
