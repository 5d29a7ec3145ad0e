"""Weights: how many rows of answers to the questions to come leave each standing thing standing, together."""

from lieask.checks import check_lies, check_marks
from lieask.errors import NoMany

MOST_MANY = 100


def weight(marks, lies, many):
    check_lies(lies)
    check_marks(marks, lies)
    check_many(many)
    return sum([ways_up_to(many, lies - mark) for mark in marks])


def check_many(many):
    if many < 0 or many > MOST_MANY:
        raise NoMany("there are 0 to 100 questions to come")


def ways_up_to(many, most):
    # A thing that is out has less than nought lies left, so no way is counted for it.
    total = 0
    ways = 1
    for size in range(most + 1):
        total += ways
        # Falls to nought and stays there where fewer questions come than are to be picked.
        ways = ways * (many - size) // (size + 1)
    return total
