"""Points 11 and 12."""

import itertools
import unittest

from helper import ALL_LIES, all_marks, all_questions, marks_by_rise, mixed_marks, mixed_questions
from lieask.marks import after, standing
from lieask.needs import need
from lieask.weights import weight

FEW = (1, 2, 3)


def rows_counted(left, many):
    """How many rows of so many answers hold at most so many lies: each row is looked at."""
    return len([row for row in itertools.product((0, 1), repeat=many) if sum(row) <= left])


def by_triangle(left, many):
    """The same by adding: the first answer is true or a lie."""
    row = [1] * (left + 1)
    for _ in range(many):
        row = [row[place] + (row[place - 1] if place > 0 else 0) for place in range(left + 1)]
    return row[left] if left >= 0 else 0


def counted(marks, lies, many, ways):
    total = 0
    for mark in marks:
        if mark <= lies:
            total += ways(lies - mark, many)
    return total


class Weight(unittest.TestCase):
    """Point 11."""

    def test_few_questions_to_come_against_each_row_of_answers(self):
        for lies, things, many in itertools.product(ALL_LIES, FEW, (0, 1, 2, 3, 4)):
            for marks in all_marks(things, lies):
                self.assertEqual(weight(marks, lies, many), counted(marks, lies, many, rows_counted))
        for lies, many in itertools.product(ALL_LIES, (5, 7, 10)):
            marks = [mark for mark in range(lies + 2)] + [0, lies]
            self.assertEqual(weight(marks, lies, many), counted(marks, lies, many, rows_counted))

    def test_many_questions_to_come_against_a_sum(self):
        for lies, things, many in itertools.product(ALL_LIES, range(1, 9), (0, 1, 2, 3, 50, 99, 100)):
            for marks in marks_by_rise(things, lies):
                self.assertEqual(weight(marks, lies, many), counted(marks, lies, many, by_triangle))

    def test_the_rows_are_those_that_leave_the_thing_standing(self):
        for lies, things, many in itertools.product(ALL_LIES, (1, 3), (0, 1, 2, 4)):
            questions = mixed_questions(things, many)
            for first in all_marks(things, lies):
                stand = 0
                for answers in itertools.product((True, False), repeat=many):
                    marks = first
                    for asked, yes in zip(questions, answers):
                        marks = after(marks, lies, asked, yes)
                    stand += len(standing(marks, lies))
                self.assertEqual(weight(first, lies, many), stand)

    def test_written_weights(self):
        self.assertEqual(weight([0], 2, 100), 1 + 100 + 4950)
        self.assertEqual(weight([1], 2, 100), 1 + 100)
        self.assertEqual(weight([2], 2, 100), 1)
        self.assertEqual(weight([3], 2, 100), 0)
        self.assertEqual(weight([0, 1, 2, 3], 2, 100), 5051 + 101 + 1)
        self.assertEqual(weight([0] * 8, 2, 9), 8 * (1 + 9 + 36))
        self.assertEqual(weight([0] * 8, 0, 100), 8)
        self.assertEqual(weight([0, 1, 2], 1, 6), 7 + 1)
        self.assertEqual(weight([0], 2, 0), 1)
        self.assertEqual(weight([0], 2, 1), 2)
        self.assertEqual(weight([0], 2, 2), 4)


class Together(unittest.TestCase):
    """Point 12."""

    def assert_together(self, marks, lies, asked, many):
        yes, no = after(marks, lies, asked, True), after(marks, lies, asked, False)
        self.assertEqual(weight(marks, lies, many), weight(yes, lies, many - 1) + weight(no, lies, many - 1))

    def test_each_question_of_few_things(self):
        for lies, things, many in itertools.product(ALL_LIES, FEW, (1, 2, 5, 100)):
            for marks, asked in itertools.product(all_marks(things, lies), all_questions(things)):
                self.assert_together(marks, lies, asked, many)

    def test_questions_of_eight_things(self):
        for lies, many in itertools.product(ALL_LIES, (1, 2, 9, 50, 100)):
            for marks, asked in zip(mixed_marks(8, lies, 100), mixed_questions(8, 100)):
                self.assert_together(marks, lies, asked, many)

    def test_with_as_many_questions_as_the_need_it_is_no_more_than_the_rows_of_answers(self):
        for lies, things in itertools.product(ALL_LIES, range(1, 9)):
            for marks in marks_by_rise(things, lies):
                many = need(marks, lies)
                self.assertLessEqual(weight(marks, lies, many), 2 ** many, (marks, lies))


if __name__ == "__main__":
    unittest.main()
