"""Points 8 to 10, and what follows from them and point 7 over a whole talk."""

import functools
import itertools
import unittest

from helper import ALL_LIES, all_marks, all_questions, marks_by_rise, mixed_marks, mixed_questions
from lieask.marks import after, begun, marked, standing
from lieask.needs import answer, need, question

# For each number of lies, up to how many things all marks are searched as they stand.
FEW = {0: 5, 1: 4, 2: 3}


def behind(marks, lies, asked, yes):
    """The marks behind an answer, made here so that the search hangs on nothing of the program."""
    return tuple(
        mark + 1 if mark <= lies and (thing in asked) is not yes else mark
        for thing, mark in enumerate(marks)
    )


def count_standing(marks, lies):
    return len([mark for mark in marks if mark <= lies])


@functools.cache
def enough(marks, lies, many):
    """Whether so many questions find the thing: over all questions and both answers."""
    if count_standing(marks, lies) <= 1:
        return True
    if many == 0:
        return False
    return any(
        all(enough(behind(marks, lies, asked, yes), lies, many - 1) for yes in (True, False))
        for asked in all_questions(len(marks))
    )


def searched(marks, lies):
    return next(many for many in itertools.count() if enough(tuple(marks), lies, many))


@functools.cache
def enough_sorted(marks, lies, many):
    """The same over rising marks: the order of the things is left out, so that eight things are not too many."""
    if count_standing(marks, lies) <= 1:
        return True
    if many == 0:
        return False
    pairs = {
        tuple(tuple(sorted(behind(marks, lies, asked, yes))) for yes in (True, False))
        for asked in all_questions(len(marks))
    }
    return any(enough_sorted(yes, lies, many - 1) and enough_sorted(no, lies, many - 1) for yes, no in pairs)


@functools.cache
def searched_sorted(marks, lies):
    return next(many for many in itertools.count() if enough_sorted(marks, lies, many))


def wanted_need(marks, lies):
    # What is out changes no need, so it is left out of the search; one that is out stands for all where none is left.
    stand = sorted(mark for mark in marks if mark <= lies)
    return searched_sorted(tuple(stand) or (lies + 1,), lies)


def orders(marks):
    """Some orders of the same marks."""
    yield marks
    yield marks[::-1]
    yield marks[::2] + marks[1::2][::-1]


class Need(unittest.TestCase):
    """Point 8."""

    def test_all_marks_of_few_things_against_a_search(self):
        for lies, most in FEW.items():
            for things in range(1, most + 1):
                for marks in all_marks(things, lies):
                    self.assertEqual(need(marks, lies), searched(marks, lies), (marks, lies))

    def test_marks_of_up_to_eight_things_against_a_search_without_order(self):
        for lies, things in itertools.product(ALL_LIES, range(1, 9)):
            for marks in marks_by_rise(things, lies):
                self.assertEqual(need(marks, lies), wanted_need(marks, lies), (marks, lies))

    def test_the_order_of_the_things_is_all_one(self):
        for lies in ALL_LIES:
            for marks in mixed_marks(8, lies, 40):
                for row in orders(marks):
                    self.assertEqual(need(row, lies), wanted_need(marks, lies), (row, lies))

    def test_it_is_nought_just_where_none_or_one_stands(self):
        for lies, things in itertools.product(ALL_LIES, range(1, 9)):
            out = lies + 1
            self.assertEqual(need([out] * things, lies), 0)
            for place, mark in itertools.product(range(things), range(out)):
                marks = [out] * things
                marks[place] = mark
                self.assertEqual(need(marks, lies), 0)
                if place > 0:
                    marks[0] = lies
                    self.assertGreater(need(marks, lies), 0)

    def test_with_no_lies_it_is_the_least_number_of_halvings(self):
        for stand, halvings in {1: 0, 2: 1, 3: 2, 4: 2, 5: 3, 6: 3, 7: 3, 8: 3}.items():
            for places in itertools.combinations(range(8), stand):
                marks = [0 if thing in places else 1 for thing in range(8)]
                self.assertEqual(need(marks, 0), halvings)
            self.assertEqual(need([0] * stand, 0), halvings)

    def test_written_needs_at_the_beginning(self):
        wanted = {0: [0, 1, 2, 2, 3, 3, 3, 3], 1: [0, 3, 5, 5, 6, 6, 6, 6], 2: [0, 5, 8, 8, 9, 9, 9, 9]}
        for lies, needs in wanted.items():
            self.assertEqual([need(begun(things), lies) for things in range(1, 9)], needs)


class Question(unittest.TestCase):
    """Point 9."""

    def assert_good(self, marks, lies):
        told = question(marks, lies)
        ahead = wanted_need(marks, lies)
        if ahead == 0:
            self.assertIsNone(told, (marks, lies))
            return
        self.assertIn(told, all_questions(len(marks)), (marks, lies))
        for yes in (True, False):
            self.assertLess(wanted_need(behind(marks, lies, told, yes), lies), ahead, (marks, lies, told, yes))

    def test_all_marks_of_few_things(self):
        for lies, most in FEW.items():
            for things in range(1, most + 1):
                for marks in all_marks(things, lies):
                    self.assert_good(marks, lies)

    def test_marks_of_up_to_eight_things(self):
        for lies, things in itertools.product(ALL_LIES, range(1, 9)):
            for marks in marks_by_rise(things, lies):
                self.assert_good(marks, lies)

    def test_marks_of_eight_things_in_mixed_order(self):
        for lies in ALL_LIES:
            for marks in mixed_marks(8, lies, 40):
                for row in orders(marks):
                    self.assert_good(row, lies)


class Answer(unittest.TestCase):
    """Point 10."""

    def assert_hard(self, marks, lies, asked):
        yes, no = [wanted_need(behind(marks, lies, asked, given), lies) for given in (True, False)]
        told = answer(marks, lies, asked)
        self.assertIs(told, yes >= no, (marks, lies, asked))
        self.assertGreaterEqual(need(after(marks, lies, asked, told), lies), wanted_need(marks, lies) - 1)

    def test_all_marks_and_questions_of_few_things(self):
        for lies, most in FEW.items():
            for things in range(1, most + 1):
                for marks, asked in itertools.product(all_marks(things, lies), all_questions(things)):
                    self.assert_hard(marks, lies, asked)

    def test_marks_and_questions_of_eight_things(self):
        for lies in ALL_LIES:
            rows = [[0] * 8, [lies] * 8, [lies + 1] * 8] + mixed_marks(8, lies, 60)
            questions = [[], list(range(8)), [0], [7], [0, 1, 2, 3], [4, 5, 6, 7]] + mixed_questions(8, 57)
            for marks, asked in zip(rows, questions):
                self.assert_hard(marks, lies, asked)
                self.assert_hard(marks[::-1], lies, asked)

    def test_yes_where_both_are_alike(self):
        for lies in ALL_LIES:
            for asked in ([], [0], [1], [0, 1]):
                self.assertIs(answer([lies + 1, lies], lies, asked), True)
            self.assertIs(answer([0, 0], lies, [0]), True)
            self.assertIs(answer([0, 0], lies, [1]), True)
            self.assertIs(answer([0] * 8, lies, [0, 1, 2, 3]), True)

    def test_the_answer_with_more_to_ask(self):
        for lies in ALL_LIES:
            self.assertIs(answer([0, 0, 0, 0], lies, []), False)
            self.assertIs(answer([0, 0, 0, 0], lies, [0, 1, 2, 3]), True)
        self.assertIs(answer([0, 0, 0], 0, [0]), False)
        self.assertIs(answer([0, 0, 0], 0, [0, 1]), True)


class Asking(unittest.TestCase):
    """Points 7, 8 and 9: the questions told find the thing in time."""

    def ask_on(self, things, lies, thing, left, talk):
        """Each way to answer with at most so many lies still left."""
        marks = marked(things, lies, talk)
        asked = self.ask(tuple(marks), lies)
        if asked is None:
            self.assertEqual(standing(marks, lies), [thing])
            self.assertLessEqual(len(talk), need(begun(things), lies))
            return
        truth = thing in asked
        self.ask_on(things, lies, thing, left, talk + [(asked, truth)])
        if left > 0:
            self.ask_on(things, lies, thing, left - 1, talk + [(asked, not truth)])

    def test_whatever_is_thought_of_and_whichever_answers_are_lies(self):
        # The same marks come up in many talks: each is asked for once.
        self.ask = functools.cache(lambda marks, lies: question(list(marks), lies))
        for lies, things in itertools.product(ALL_LIES, range(1, 9)):
            for thing in range(things):
                self.ask_on(things, lies, thing, lies, [])


class Holding(unittest.TestCase):
    """Points 8 and 10: the answers told keep two things standing while fewer questions than the need were asked."""

    def test_whatever_is_asked_of_few_things(self):
        for lies, most in FEW.items():
            for things in range(2, most + 1):
                reached = {tuple(begun(things))}
                for _ in range(need(begun(things), lies) - 1):
                    reached = {
                        behind(marks, lies, asked, answer(list(marks), lies, asked))
                        for marks in reached for asked in all_questions(things)
                    }
                for marks in reached:
                    self.assertGreaterEqual(len(standing(list(marks), lies)), 2, (marks, lies))

    def hold(self, things, lies, asked_by):
        talk, marks = [], begun(things)
        for _ in range(need(marks, lies) - 1):
            asked = asked_by(marks)
            talk.append((asked, answer(marks, lies, asked)))
            marks = marked(things, lies, talk)
        self.assertGreaterEqual(len(standing(marks, lies)), 2, (talk, lies))

    def test_against_the_questions_told(self):
        for lies, things in itertools.product(ALL_LIES, range(2, 9)):
            self.hold(things, lies, lambda marks: question(marks, lies))

    def test_against_mixed_questions_of_many_things(self):
        for lies, things in itertools.product(ALL_LIES, range(4, 9)):
            row = iter(mixed_questions(things, 200))
            for _ in range(6):
                self.hold(things, lies, lambda marks: next(row))


if __name__ == "__main__":
    unittest.main()
