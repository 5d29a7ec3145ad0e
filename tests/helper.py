"""What several tests use: refusals, and all marks and questions of a few things."""

import copy
import itertools

from lieask import errors

OWN = (errors.NoLies, errors.NoMarks, errors.NoQuestion, errors.NoMany, errors.NoNote)

# 10 ** 5000 has more figures than Python writes by itself: an error's words must not trip over it.
FAR = (10, 100, -2, -100, 2 ** 31, 2 ** 63, -2 ** 63, 10 ** 30, -10 ** 30, 10 ** 5000, -10 ** 5000)

ALL_LIES = (0, 1, 2)
BAD_LIES = (-1, 3) + FAR
BAD_THINGS = (0, -1, 9) + FAR

# Each is a bad question about 3 things.
BAD_QUESTIONS = ([0, 0], [1, 1, 2], [2, 2], [0, 1, 0], [1, 0], [2, 0, 1], [0, 2, 1], [-1], [-1, 0], [3], [0, 3],
                 [0, 1, 2, 3], [2, -1], [10 ** 5000], [-10 ** 5000])


def refused(test, wanted, call, *given):
    """The call is refused with just the wanted class, and what was given is as it was."""
    kept = copy.deepcopy(given)
    try:
        call(*given)
    except ValueError as error:
        test.assertIs(type(error), wanted)
        test.assertIsInstance(error, errors.LieError)
        test.assertEqual([own for own in OWN if isinstance(error, own)], [wanted])
    else:
        test.fail(f"{call.__name__} took what {wanted.__name__} should refuse")
    test.assertEqual(given, kept)


def bad_marks(lies):
    """Marks of too few or too many things, and marks with another number at any place."""
    rows = [[0] * things for things in (0, 9, 10, 100)]
    for things in range(1, 9):
        for place, bad in itertools.product(range(things), (-1, lies + 2, 10 ** 5000, -10 ** 5000)):
            rows.append([0] * place + [bad] + [lies + 1] * (things - place - 1))
    return rows


def all_marks(things, lies):
    return [list(marks) for marks in itertools.product(range(lies + 2), repeat=things)]


def marks_by_rise(things, lies):
    """The marks of so many things, but for the order of the things."""
    return [list(marks) for marks in itertools.combinations_with_replacement(range(lies + 2), things)]


def all_questions(things):
    return [
        list(asked)
        for size in range(things + 1)
        for asked in itertools.combinations(range(things), size)
    ]


def mixed_numbers(count):
    """Numbers from 0 to 65535 in mixed order, the same each time."""
    state, numbers = 1, []
    for _ in range(count):
        state = (state * 75 + 74) % 65537
        numbers.append(state & 65535)
    return numbers


def mixed_questions(things, count):
    return [[thing for thing in range(things) if number >> thing & 1] for number in mixed_numbers(count)]


def mixed_marks(things, lies, count):
    """Some marks of so many things; each number takes part, whichever the place."""
    numbers = mixed_numbers(count * things)
    return [
        [number // 7 % (lies + 2) for number in numbers[first:first + things]]
        for first in range(0, count * things, things)
    ]
