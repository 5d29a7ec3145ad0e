"""Notes: marks written as a text with one sign for each thing, and read again."""

from lieask.checks import MOST_THINGS, check_lies, check_marks
from lieask.errors import NoNote

FIGURES = "012"
OUT = "x"


def shown(marks, lies):
    check_lies(lies)
    check_marks(marks, lies)
    signs = signs_by_mark(lies)
    return "".join([signs[mark] for mark in marks])


def read(text, lies):
    check_lies(lies)
    if len(text) < 1 or len(text) > MOST_THINGS:
        raise NoNote("a note has 1 to 8 signs")
    signs = signs_by_mark(lies)
    return [mark_of(sign, signs) for sign in text]


def signs_by_mark(lies):
    # The mark of a thing that is out is one more than the lies, so its sign stands just behind their figures.
    return FIGURES[:lies + 1] + OUT


def mark_of(sign, signs):
    mark = signs.find(sign)
    if mark < 0:
        raise NoNote("a sign is x or the figure of a number from nought to the lies")
    return mark
