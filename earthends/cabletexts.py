"""Cables as texts: a row `back BACK`, and for each length a row `STEPS x DRAG`."""

from earthends.cables import MOST_LENGTHS, is_back, is_length, need_cable
from earthends.errors import NoText
from earthends.fractions import is_fraction

FIGURES = "0123456789"
# Longer numbers pass the bounds of a cable anyway.
MOST_FIGURES = 3


def show_fraction(x):
    """A fraction as it is written."""
    return f"{x[0]}" if x[1] == 1 else f"{x[0]}/{x[1]}"


def show_cable(cable):
    """A cable as a text."""
    need_cable(cable)
    rows = [f"back {show_fraction(cable[1])}"]
    for steps, each in cable[0]:
        rows.append(f"{steps} x {show_fraction(each)}")
    return "\n".join(rows)


def read_number(word, most):
    """The number that a word of at most so many figures is, None where it is not written so."""
    if not 1 <= len(word) <= most or any([sign not in FIGURES for sign in word]):
        return None
    if word.startswith("0") and word != "0":
        return None
    return int(word)


def read_fraction(word, most):
    """The fraction that a word is, its numbers of at most so many figures, None where it is not written so."""
    top, slash, bottom = word.partition("/")
    if slash == "":
        bottom = "1"
    elif bottom == "1":
        return None
    made = (read_number(top, most), read_number(bottom, most))
    return made if is_fraction(made) else None


def read_back(row):
    """The drag of the wire back by the first row, None where it is not written so."""
    words = row.split(" ")
    if len(words) != 2 or words[0] != "back":
        return None
    back = read_fraction(words[1], MOST_FIGURES)
    return back if is_back(back) else None


def read_length(row):
    """The length by a later row, None where it is not written so."""
    words = row.split(" ")
    if len(words) != 3 or words[1] != "x":
        return None
    length = (read_number(words[0], MOST_FIGURES), read_fraction(words[2], MOST_FIGURES))
    return length if is_length(length) else None


def read_lengths(rows):
    """The lengths by all rows behind the first."""
    lengths = []
    for at, row in enumerate(rows, start=1):
        length = read_length(row)
        if length is None or at > MOST_LENGTHS:
            raise NoText(at)
        lengths.append(length)
    return tuple(lengths)


def read_cable(text):
    """A text as a cable."""
    if not isinstance(text, str):
        raise NoText(0)
    rows = text.split("\n")
    back = read_back(rows[0])
    if back is None:
        raise NoText(0)
    if len(rows) == 1:
        raise NoText(1)
    return (read_lengths(rows[1:]), back)
