"""What holds over the whole program: points 1 to 4, and the order of refusals, for needs, weights and notes."""

import copy
import inspect
import itertools
import unittest

from helper import ALL_LIES, BAD_LIES, BAD_QUESTIONS, FAR, bad_marks, refused
from lieask.errors import NoLies, NoMany, NoMarks, NoNote, NoQuestion
from lieask.marks import after
from lieask.needs import answer, need, question
from lieask.notes import read, shown
from lieask.weights import weight

BAD_MANY = (-1, 101, 102, 1000) + tuple(far for far in FAR if far not in (10, 100))
BAD_TEXTS = ("", "0" * 9, "0 ", "X", "0123", "\n")


def calls_of_marks(marks, lies):
    """Each function that is handed marks, with all else good where there are three things."""
    yield need, (marks, lies)
    yield question, (marks, lies)
    yield answer, (marks, lies, [0, 2])
    yield answer, (marks, lies, [])
    yield weight, (marks, lies, 5)
    yield shown, (marks, lies)


class Interface(unittest.TestCase):
    def test_arguments_have_the_names_of_the_document(self):
        wanted = {need: ["marks", "lies"], question: ["marks", "lies"], answer: ["marks", "lies", "asked"],
                  weight: ["marks", "lies", "many"], shown: ["marks", "lies"], read: ["text", "lies"]}
        for call, names in wanted.items():
            self.assertEqual(list(inspect.signature(call).parameters), names)

    def test_arguments_may_be_named(self):
        self.assertEqual(need(marks=[0, 0], lies=0), 1)
        self.assertIn(question(marks=[0, 0], lies=0), ([0], [1]))
        self.assertIs(answer(marks=[0, 0], lies=0, asked=[0]), True)
        self.assertEqual(weight(marks=[0, 0], lies=0, many=3), 2)
        self.assertEqual(shown(marks=[0, 1], lies=0), "0x")
        self.assertEqual(read(text="0x", lies=0), [0, 1])

    def test_kinds(self):
        for lies in ALL_LIES:
            for marks in ([0, 0, 0], [0, 1, 1], [lies + 1] * 3):
                self.assertIs(type(need(marks, lies)), int)
                self.assertIs(type(weight(marks, lies, 4)), int)
                self.assertIs(type(shown(marks, lies)), str)
                self.assertIs(type(answer(marks, lies, [1])), bool)
                told = question(marks, lies)
                if told is not None:
                    self.assertIs(type(told), list)
                    self.assertEqual({type(thing) for thing in told}, {int})
            told = read("0x", lies)
            self.assertIs(type(told), list)
            self.assertEqual({type(mark) for mark in told}, {int})


class OwnLists(unittest.TestCase):
    """Point 1."""

    def marks_to_ask(self):
        for lies in ALL_LIES:
            for marks in ([0, 0], [0] * 8, [0, lies + 1, lies, 0], [lies, 0, lies, 0, lies + 1], [lies] * 8):
                yield marks, lies

    def assert_good(self, told, marks, lies):
        """The question told makes the need less behind both answers."""
        for yes in (True, False):
            self.assertLess(need(after(marks, lies, told, yes), lies), need(marks, lies))

    def test_what_is_handed_in_is_as_it_was(self):
        for marks, lies in self.marks_to_ask():
            for call, given in calls_of_marks(marks, lies):
                if call is answer and len(marks) < 3:
                    continue
                kept = copy.deepcopy(given)
                call(*given)
                self.assertEqual(given, kept, call)
                self.assertIs(given[0], marks)

    def test_a_told_question_can_be_changed_and_such_a_one_is_told_again(self):
        for marks, lies in self.marks_to_ask():
            kept = list(marks)
            for _ in range(3):
                told = question(marks, lies)
                self.assert_good(told, marks, lies)
                told[0] = 78
                told.append(77)
                self.assertEqual(marks, kept)

    def test_told_marks_can_be_changed_and_are_told_again(self):
        for lies, text in itertools.product(ALL_LIES, ("0", "x", "00xx0", "0" * 8, "x" * 8)):
            wanted = [lies + 1 if sign == "x" else 0 for sign in text]
            for _ in range(3):
                told = read(text, lies)
                self.assertEqual(told, wanted)
                told[0] = 78
                told.append(77)

    def test_no_told_list_is_one_told_before_or_handed_in(self):
        for marks, lies in self.marks_to_ask():
            lists = [marks] + [question(marks, lies) for _ in range(4)]
            lists += [read(shown(marks, lies), lies) for _ in range(4)]
            lists += [read("0", lies) for _ in range(4)] + [read("x", lies) for _ in range(4)]
            self.assertEqual(len({id(value) for value in lists}), len(lists))

    def test_what_is_handed_in_is_not_kept(self):
        marks, asked = [0, 0, 0, 0], [0, 1]
        told = question(marks, 0)
        self.assertEqual(need(marks, 0), 2)
        self.assertIs(answer(marks, 0, asked), True)
        self.assertEqual(weight(marks, 0, 2), 4)
        self.assertEqual(shown(marks, 0), "0000")
        again = list(told)
        marks[0] = 1
        marks[1] = 1
        marks.append(1)
        asked.pop()
        self.assertEqual(told, again)
        self.assertEqual(need(marks, 0), 1)
        self.assert_good(question(marks, 0), marks, 0)
        self.assertIs(answer(marks, 0, asked), False)
        self.assertEqual(weight(marks, 0, 2), 2)
        self.assertEqual(shown(marks, 0), "11001".replace("1", "x"))


class Lies(unittest.TestCase):
    """Point 2."""

    def test_none_one_and_two_are_taken(self):
        for lies in ALL_LIES:
            for call, given in calls_of_marks([0, 0, 0], lies):
                call(*given)
            self.assertEqual(read("0x", lies), [0, lies + 1])

    def test_other_numbers_are_refused(self):
        for lies in BAD_LIES:
            for call, given in calls_of_marks([0, 0, 0], lies):
                refused(self, NoLies, call, *given)
            refused(self, NoLies, read, "0x", lies)
            refused(self, NoLies, read, "x", lies)

    def test_lies_are_refused_ahead_of_all_else(self):
        for lies in BAD_LIES:
            for marks in ([], [0] * 9, [-1], [0, 9], [lies + 2]):
                for call, given in calls_of_marks(marks, lies):
                    refused(self, NoLies, call, *given)
                refused(self, NoLies, answer, marks, lies, [1, 0])
                refused(self, NoLies, weight, marks, lies, -1)
            refused(self, NoLies, answer, [0, 0, 0], lies, [1, 0])
            refused(self, NoLies, weight, [0, 0, 0], lies, 101)
            for text in BAD_TEXTS:
                refused(self, NoLies, read, text, lies)


class Marks(unittest.TestCase):
    """Point 3."""

    def test_all_numbers_up_to_one_more_than_the_lies_are_taken_at_any_place(self):
        for lies, things in itertools.product(ALL_LIES, (1, 3, 8)):
            for place, mark in itertools.product(range(things), range(lies + 2)):
                marks = [lies] * things
                marks[place] = mark
                for call, given in calls_of_marks(marks, lies):
                    if call is not answer or things >= 3:
                        call(*given)

    def test_bad_marks_are_refused(self):
        for lies in ALL_LIES:
            for marks in bad_marks(lies):
                for call, given in calls_of_marks(marks, lies):
                    refused(self, NoMarks, call, *given)

    def test_marks_are_refused_ahead_of_the_question_and_the_questions_to_come(self):
        for lies in ALL_LIES:
            for marks in bad_marks(lies):
                for asked in BAD_QUESTIONS:
                    refused(self, NoMarks, answer, marks, lies, asked)
                for many in BAD_MANY:
                    refused(self, NoMarks, weight, marks, lies, many)


class Questions(unittest.TestCase):
    """Point 4."""

    def test_bad_questions_are_refused(self):
        for lies, asked in itertools.product(ALL_LIES, BAD_QUESTIONS):
            for marks in ([0, 0, 0], [0, lies + 1, lies], [lies + 1] * 3):
                refused(self, NoQuestion, answer, marks, lies, asked)

    def test_one_beyond_the_things_is_refused_for_each_number_of_things(self):
        for lies, things in itertools.product(ALL_LIES, range(1, 9)):
            answer([0] * things, lies, list(range(things)))
            answer([0] * things, lies, [])
            refused(self, NoQuestion, answer, [0] * things, lies, list(range(things + 1)))
            refused(self, NoQuestion, answer, [0] * things, lies, [things])
            refused(self, NoQuestion, answer, [0] * things, lies, [-1])


class Many(unittest.TestCase):
    """Point 11, of the number of questions to come."""

    def test_nought_to_a_hundred_are_taken(self):
        for lies, many in itertools.product(ALL_LIES, range(101)):
            self.assertEqual(weight([lies, lies + 1], lies, many), 1)

    def test_other_numbers_are_refused(self):
        for lies, many in itertools.product(ALL_LIES, BAD_MANY):
            for marks in ([0], [0, 0, 0], [lies] * 8, [lies + 1] * 3):
                refused(self, NoMany, weight, marks, lies, many)


class Notes(unittest.TestCase):
    """Point 13, of the class of its refusal."""

    def test_bad_texts_are_refused(self):
        for lies, text in itertools.product(ALL_LIES, BAD_TEXTS):
            refused(self, NoNote, read, text, lies)


if __name__ == "__main__":
    unittest.main()
