"""What several tests use: refusals, and all marks and questions of a few things."""

import copy
import itertools

from lieask import errors

OWN = (errors.NoLies, errors.NoMarks, errors.NoQuestion, errors.NoMany, errors.NoNote)

# 10 ** 5000 has more figures than Python writes by itself: an error's words must not trip over it.
FAR = (10, 100, -2, -100, 2 ** 31, 2 ** 63, -2 ** 63, 10 ** 30, -10 ** 30, 10 ** 5000, -10 ** 5000)


def refused(test, wanted, call, *given):
    """The call is refused with just the wanted class, and what was given is as it was."""
    kept = copy.deepcopy(given)
    try:
        call(*given)
    except ValueError as error:
        test.assertIs(type(error), wanted)
        test.assertIsInstance(error, errors.LieError)
        test.assertEqual([own for own in OWN if isinstance(error, own)], [wanted])
    else:
        test.fail(f"{call.__name__} took what {wanted.__name__} should refuse")
    test.assertEqual(given, kept)


def all_marks(things, lies):
    return [list(marks) for marks in itertools.product(range(lies + 2), repeat=things)]


def all_questions(things):
    return [
        list(asked)
        for size in range(things + 1)
        for asked in itertools.combinations(range(things), size)
    ]
