import unittest

from earthends.cabletexts import read_cable, show_cable
from helpers import ODD, chance, refused, some_cable

THREE = (((10, (3, 2)), (5, (2, 1)), (20, (1, 4))), (7, 3))
TEXT = "back 7/3\n10 x 3/2\n5 x 2\n20 x 1/4"


class ThereAndBack(unittest.TestCase):
    def test_three(self):
        self.assertEqual(show_cable(THREE), TEXT)
        self.assertEqual(read_cable(TEXT), THREE)

    def test_back_nought_and_bounds(self):
        for cable, text in (
                ((((1, (1, 1)),), (0, 1)), "back 0\n1 x 1"),
                ((((999, (999, 1)),), (999, 1)), "back 999\n999 x 999"),
                ((((100, (1, 999)),), (998, 999)), "back 998/999\n100 x 1/999"),
                ((((10, (10, 1)),) * 12, (10, 1)), "back 10" + "\n10 x 10" * 12)):
            self.assertEqual(show_cable(cable), text)
            self.assertEqual(read_cable(text), cable)

    def test_by_chance(self):
        rand = chance(9)
        for _ in range(100):
            cable = some_cable(rand)
            self.assertEqual(read_cable(show_cable(cable)), cable)

    def test_no_cable(self):
        for odd in ODD + ((), ((), (0, 1)), list(THREE), (list(THREE[0]), THREE[1]), (THREE[0] * 5, THREE[1])):
            refused(self, "NoCable", show_cable, odd)


BAD_FRACTIONS = (
    "", "00", "01", "+1", "-1", "1/", "/1", "/", "1/1", "2/4", "0/2", "0/1", "1/0", "0/0", "1/02", "01/2", "1/-2", "-1/2", "+1/2",
    "1/+2", "1//2", "1/2/3", "1000", "1/1000", "1000/3", "999/1000", "1.5", "1,5", "x", "a", "1x", "1_0", "1e1", "\t1", "1\t",
    "1 /2", "1/ 2", " 1", "1 ", "1\r", "9" * 500, "1/" + "9" * 500,
)
BAD_STEPS = ("", "0", "00", "01", "+1", "-1", "1000", "1/2", "1/1", "a", "1_0", " 1", "1 ", "\t1", "9" * 500)


class Refused(unittest.TestCase):
    def row(self, text, row):
        self.assertEqual(refused(self, "NoText", read_cable, text).row, row, text)

    def test_what_is_no_text(self):
        for odd in ODD + ((), b"back 0\n1 x 1", ["back 0", "1 x 1"], THREE):
            if not isinstance(odd, str):
                self.row(odd, 0)

    def test_first_row(self):
        for first in ["", "back", "back ", " back 0", "back  0", "back 0 ", "Back 0", "BACK 0", "back0", "back 0 0", "0", "0 back",
                      "1 x 1", "\tback 0", "back\t0", "back 0\r"] + ["back " + bad for bad in BAD_FRACTIONS]:
            self.row(first, 0)
            self.row(first + "\n1 x 1", 0)
            self.row(first + "\n", 0)
            self.row(first + "\nx", 0)
            self.row(first + "\n1 x 1" * 13, 0)

    def test_later_rows(self):
        bad_rows = ["", " ", "1 x", "x 1", "1 1", "1x1", "1 X 1", "1 y 1", "1  x 1", "1 x  1", " 1 x 1", "1 x 1 ", "1 x 1 1", "1 x",
                    "1 x ", " x 1", "back 0", "1\tx 1", "1 x 1\r", "1 x 0", "0 x 1", "1 xx 1", "1 * 1"]
        bad_rows += ["1 x " + bad for bad in BAD_FRACTIONS] + [bad + " x 1" for bad in BAD_STEPS]
        for bad in bad_rows:
            for ahead in (0, 1, 4, 11):
                text = "back 0" + "\n1 x 1/2" * ahead + "\n" + bad
                self.row(text, ahead + 1)
                self.row(text + "\n5 x 5", ahead + 1)
                self.row(text + "\n", ahead + 1)
                self.row(text + "\nx", ahead + 1)

    def test_a_line_end_more(self):
        self.row(TEXT + "\n", 4)
        self.row("\n" + TEXT, 0)
        self.row(TEXT.replace("\n", "\n\n", 1), 1)
        self.row("back 0" + "\n1 x 1" * 12 + "\n", 13)

    def test_first_row_alone(self):
        self.row("back 0", 1)
        self.row("back 7/3", 1)
        self.row("back 7/3\n", 1)

    def test_fourteenth_row(self):
        for last in ("1 x 1", "x", "", "1 x 1\n1 x 1"):
            self.row("back 0" + "\n1 x 1" * 12 + "\n" + last, 13)
        self.row("back 0" + "\n1 x 1" * 40, 13)
        self.row("back 0" + "\n1 x 1" * 11 + "\n1 x 0\n1 x 1", 12)

    def test_empty_text(self):
        self.row("", 0)
        self.row("\n", 0)


if __name__ == "__main__":
    unittest.main()
