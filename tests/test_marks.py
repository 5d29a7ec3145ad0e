import copy
import inspect
import itertools
import unittest

from helper import ALL_LIES, BAD_LIES, BAD_QUESTIONS, BAD_THINGS, all_marks, all_questions, mixed_numbers, refused
from lieask.errors import NoLies, NoMarks, NoQuestion
from lieask.marks import after, begun, marked, standing

FEW = (1, 2, 3)


def lies_told(thing, talk):
    """How many answers of the talk are lies if this thing is thought of."""
    told = 0
    for asked, yes in talk:
        if yes and thing not in asked:
            told += 1
        if not yes and thing in asked:
            told += 1
    return told


def many_talks():
    """Long talks of eight things, by a rule that takes in every question and both answers in mixed order."""
    turns = [([thing for thing in range(8) if number >> thing & 1], number >> 8 & 1 == 1)
             for number in mixed_numbers(406)]
    for size in list(range(0, 12)) + [40, 300]:
        yield turns[:size]
        turns = turns[size:]


class Interface(unittest.TestCase):
    def test_arguments_have_the_names_of_the_document(self):
        wanted = {begun: ["things"], after: ["marks", "lies", "asked", "yes"],
                  standing: ["marks", "lies"], marked: ["things", "lies", "talk"]}
        for call, names in wanted.items():
            self.assertEqual(list(inspect.signature(call).parameters), names)

    def test_arguments_may_be_named(self):
        self.assertEqual(begun(things=2), [0, 0])
        self.assertEqual(after(marks=[0, 0], lies=1, asked=[0], yes=True), [0, 1])
        self.assertEqual(standing(marks=[0, 2], lies=1), [0])
        self.assertEqual(marked(things=2, lies=1, talk=[([0], False)]), [1, 0])


class OwnLists(unittest.TestCase):
    """Point 1: nothing handed in is changed or kept, and what is told is the asker's own."""

    def calls(self):
        talk = [([], True), ([0, 1], True), ([1], False)]
        yield begun, (3,)
        for lies in ALL_LIES:
            yield after, ([0, 1, 0], lies, [0, 1, 2], True)
            yield after, ([0, 1, 0], lies, [], False)
            yield after, ([0, 1], lies, [0, 1], True)
            yield after, ([0, 1, 1], lies, [1], False)
            yield after, ([lies + 1] * 3, lies, [0, 2], True)
            yield standing, ([lies + 1] * 3, lies)
            yield marked, (3, lies, [])
            yield marked, (3, lies, talk)
            yield marked, (2, lies, [([0, 1], True)])
        yield standing, ([0, 1], 1)
        yield standing, ([0, 1, 2], 2)

    def test_what_is_handed_in_is_as_it_was(self):
        for call, given in self.calls():
            kept = copy.deepcopy(given)
            call(*given)
            self.assertEqual(given, kept, call)

    def test_the_very_questions_of_a_talk_stay_in_it(self):
        first, second = [0], [1, 2]
        pair = (first, True)
        talk = [pair, (second, False)]
        marked(3, 1, talk)
        self.assertIs(talk[0], pair)
        self.assertIs(talk[0][0], first)
        self.assertIs(talk[1][0], second)
        self.assertEqual(talk, [([0], True), ([1, 2], False)])

    def test_a_told_list_can_be_changed_and_is_told_again(self):
        for call, given in self.calls():
            kept = copy.deepcopy(given)
            told = call(*given)
            self.assertIs(type(told), list)
            wanted = list(told)
            told.append(77)
            told[0] = 78
            self.assertEqual(given, kept, call)
            self.assertEqual(call(*given), wanted)

    def test_no_told_list_is_one_told_before_or_handed_in(self):
        for call, given in self.calls():
            lists = [value for value in given if isinstance(value, list)]
            if call is marked:
                lists += [asked for asked, _ in given[2]]
            lists += [call(*given) for _ in range(3)]
            self.assertEqual(len({id(value) for value in lists}), len(lists), call)

    def test_what_is_handed_in_is_not_kept(self):
        marks, asked = [0, 0, 0], [1]
        told = after(marks, 1, asked, True)
        marks[0] = 2
        asked.append(2)
        self.assertEqual(told, [1, 0, 1])
        self.assertEqual(after(marks, 1, asked, True), [2, 0, 0])
        talk = [([0], True)]
        told = marked(2, 1, talk)
        talk[0][0].append(1)
        talk.append(([0], False))
        self.assertEqual(told, [0, 1])
        self.assertEqual(marked(2, 1, talk), [1, 0])


class Lies(unittest.TestCase):
    """Point 2."""

    def test_none_one_and_two_are_taken(self):
        for lies in ALL_LIES:
            self.assertEqual(after([0, 0], lies, [0], True), [0, 1])
            self.assertEqual(standing([0, lies + 1], lies), [0])
            self.assertEqual(marked(2, lies, [([1], True)]), [1, 0])

    def test_other_numbers_are_refused(self):
        for lies in BAD_LIES:
            refused(self, NoLies, after, [0, 0], lies, [0], True)
            refused(self, NoLies, standing, [0, 0], lies)
            refused(self, NoLies, marked, 2, lies, [([0], True)])
            refused(self, NoLies, marked, 2, lies, [])

    def test_lies_are_refused_ahead_of_all_else(self):
        for lies in BAD_LIES:
            for marks in ([], [0] * 9, [-1], [0, 9]):
                refused(self, NoLies, after, marks, lies, [0], False)
                refused(self, NoLies, after, marks, lies, [5, 5], False)
                refused(self, NoLies, standing, marks, lies)
            refused(self, NoLies, after, [0, 0], lies, [1, 0], True)
            for things in BAD_THINGS:
                refused(self, NoLies, marked, things, lies, [])
                refused(self, NoLies, marked, things, lies, [([1, 0], True)])
            refused(self, NoLies, marked, 2, lies, [([1, 0], True)])


class Marks(unittest.TestCase):
    """Point 3."""

    def test_all_marks_up_to_one_more_than_the_lies_are_taken(self):
        for lies in ALL_LIES:
            for things in (1, 8):
                for place, mark in itertools.product(range(things), range(lies + 2)):
                    marks = [0] * things
                    marks[place] = mark
                    self.assertEqual(after(marks, lies, list(range(things)), True), marks)
                    self.assertEqual(place in standing(marks, lies), mark <= lies)
            self.assertEqual(standing([lies + 1] * 8, lies), [])

    def test_too_few_or_too_many_things_are_refused(self):
        for lies in ALL_LIES:
            for things in (0, 9, 10, 100):
                refused(self, NoMarks, after, [0] * things, lies, [], True)
                refused(self, NoMarks, standing, [0] * things, lies)

    def test_another_number_at_any_place_is_refused(self):
        for lies, things in itertools.product(ALL_LIES, range(1, 9)):
            for place, bad in itertools.product(range(things), (-1, lies + 2, 10 ** 5000, -10 ** 5000)):
                marks = [0] * things
                marks[place] = bad
                for yes in (True, False):
                    refused(self, NoMarks, after, marks, lies, [place], yes)
                refused(self, NoMarks, standing, marks, lies)

    def test_marks_are_refused_ahead_of_the_question(self):
        for lies in ALL_LIES:
            for marks in ([], [0] * 9, [-1, 0, 0], [0, 0, lies + 2]):
                for asked in BAD_QUESTIONS:
                    refused(self, NoMarks, after, marks, lies, asked, True)

    def test_at_the_beginning_all_marks_are_nought(self):
        wanted = {1: [0], 2: [0, 0], 3: [0, 0, 0], 4: [0, 0, 0, 0], 5: [0, 0, 0, 0, 0], 6: [0, 0, 0, 0, 0, 0],
                  7: [0, 0, 0, 0, 0, 0, 0], 8: [0, 0, 0, 0, 0, 0, 0, 0]}
        for things, marks in wanted.items():
            self.assertEqual(begun(things), marks)

    def test_other_numbers_of_things_are_refused(self):
        for things in BAD_THINGS:
            refused(self, NoMarks, begun, things)
            for lies in ALL_LIES:
                refused(self, NoMarks, marked, things, lies, [])
                refused(self, NoMarks, marked, things, lies, [([], True)])
                refused(self, NoMarks, marked, things, lies, [([1, 0], True)])
                refused(self, NoMarks, marked, things, lies, [([0], True), ([-1], False)])


class Questions(unittest.TestCase):
    """Point 4."""

    def test_no_things_and_all_things_are_taken(self):
        for things in range(1, 9):
            nought, one = [0] * things, [1] * things
            self.assertEqual(after(nought, 1, [], True), one)
            self.assertEqual(after(nought, 1, [], False), nought)
            self.assertEqual(after(nought, 1, list(range(things)), True), nought)
            self.assertEqual(after(nought, 1, list(range(things)), False), one)

    def test_each_question_about_eight_things_is_taken(self):
        questions = all_questions(8)
        self.assertEqual(len(questions), 256)
        for asked in questions:
            wanted = [1 if thing in asked else 0 for thing in range(8)]
            self.assertEqual(after([0] * 8, 0, asked, False), wanted)
            self.assertEqual(marked(8, 0, [(asked, False)]), wanted)

    def test_bad_questions_are_refused(self):
        for lies, asked, yes in itertools.product(ALL_LIES, BAD_QUESTIONS, (True, False)):
            refused(self, NoQuestion, after, [0, 0, 0], lies, asked, yes)
            refused(self, NoQuestion, after, [lies + 1] * 3, lies, asked, yes)

    def test_every_short_list_is_taken_or_refused_rightly(self):
        for things in FEW:
            good = all_questions(things)
            for size in range(things + 2):
                for row in itertools.product(range(-1, things + 1), repeat=size):
                    if list(row) in good:
                        self.assertEqual(len(after([0] * things, 1, list(row), True)), things)
                    else:
                        refused(self, NoQuestion, after, [0] * things, 1, list(row), True)

    def test_one_beyond_the_things_is_refused_for_each_number_of_things(self):
        for things in range(1, 9):
            refused(self, NoQuestion, after, [0] * things, 2, list(range(things + 1)), True)
            refused(self, NoQuestion, marked, things, 2, [([things], True)])
            refused(self, NoQuestion, marked, things, 2, [([-1], True)])

    def test_a_bad_question_is_refused_at_whatever_place_of_a_talk(self):
        good = [([], True), ([0, 1, 2], False), ([1], True), ([0, 2], False)]
        for lies, asked, place in itertools.product(ALL_LIES, BAD_QUESTIONS, range(len(good) + 1)):
            for yes in (True, False):
                refused(self, NoQuestion, marked, 3, lies, good[:place] + [(asked, yes)] + good[place:])

    def test_a_bad_question_is_refused_where_all_things_are_out(self):
        talk = [([], True)] * 20
        refused(self, NoQuestion, marked, 3, 2, talk + [([1, 0], True)])


class Answers(unittest.TestCase):
    """Point 5."""

    def test_yes_marks_what_is_not_in_the_question(self):
        self.assertEqual(after([0, 0, 0, 0], 1, [1, 3], True), [1, 0, 1, 0])
        self.assertEqual(after([0, 1, 2, 1], 2, [0], True), [0, 2, 3, 2])

    def test_no_marks_what_is_in_the_question(self):
        self.assertEqual(after([0, 0, 0, 0], 1, [1, 3], False), [0, 1, 0, 1])
        self.assertEqual(after([0, 1, 2, 1], 2, [0], False), [1, 1, 2, 1])

    def test_what_is_out_stays_out_with_its_mark(self):
        for lies in ALL_LIES:
            out = lies + 1
            for yes in (True, False):
                self.assertEqual(after([out, out], lies, [0], yes), [out, out])
            self.assertEqual(after([out, lies], lies, [], True), [out, out])
            self.assertEqual(after([out, lies], lies, [0, 1], False), [out, out])

    def test_all_marks_questions_and_answers_of_few_things(self):
        for lies, things in itertools.product(ALL_LIES, FEW):
            for marks, asked in itertools.product(all_marks(things, lies), all_questions(things)):
                yes, no = list(marks), list(marks)
                for thing in range(things):
                    changed = no if thing in asked else yes
                    if changed[thing] <= lies:
                        changed[thing] += 1
                self.assertEqual(after(marks, lies, asked, True), yes)
                self.assertEqual(after(marks, lies, asked, False), no)


class Standing(unittest.TestCase):
    """Point 6."""

    def test_it_is_the_rising_list_of_what_is_not_out(self):
        self.assertEqual(standing([0], 0), [0])
        self.assertEqual(standing([1, 0, 1, 0], 0), [1, 3])
        self.assertEqual(standing([2, 1, 0, 2, 1], 1), [1, 2, 4])
        self.assertEqual(standing([3, 2, 1, 0, 3, 2, 1, 0], 2), [1, 2, 3, 5, 6, 7])
        self.assertEqual(standing(begun(8), 0), [0, 1, 2, 3, 4, 5, 6, 7])

    def test_none_stands_where_all_are_out(self):
        for lies, things in itertools.product(ALL_LIES, range(1, 9)):
            self.assertEqual(standing([lies + 1] * things, lies), [])

    def test_all_marks_of_few_things(self):
        for lies, things in itertools.product(ALL_LIES, FEW):
            for marks in all_marks(things, lies):
                wanted = []
                for thing in range(things):
                    if marks[thing] != lies + 1:
                        wanted.append(thing)
                self.assertEqual(standing(marks, lies), wanted)


class Talks(unittest.TestCase):
    """Point 7."""

    def behind(self, things, lies, talk):
        told = [lies_told(thing, talk) for thing in range(things)]
        marks = marked(things, lies, talk)
        self.assertEqual(marks, [min(lies + 1, count) for count in told])
        self.assertEqual(standing(marks, lies), [thing for thing in range(things) if told[thing] <= lies])

    def test_behind_no_question_all_marks_are_nought(self):
        for lies, things in itertools.product(ALL_LIES, range(1, 9)):
            self.assertEqual(marked(things, lies, []), [0] * things)

    def test_written_talks(self):
        talk = [([0, 1], True), ([0, 2], False), ([0], False), ([3], False)]
        self.assertEqual(marked(4, 0, talk), [1, 0, 1, 1])
        self.assertEqual(marked(4, 1, talk), [2, 0, 2, 2])
        self.assertEqual(marked(4, 2, talk), [2, 0, 2, 2])
        self.assertEqual(marked(1, 2, [([], True)] * 3), [3])
        self.assertEqual(marked(1, 2, [([], True)] * 30), [3])

    def test_each_talk_of_one_question(self):
        for lies, things in itertools.product(ALL_LIES, range(1, 9)):
            for asked, yes in itertools.product(all_questions(things), (True, False)):
                self.behind(things, lies, [(asked, yes)])

    def test_each_talk_of_up_to_four_questions_of_two_things(self):
        turns = list(itertools.product(all_questions(2), (True, False)))
        for lies, size in itertools.product(ALL_LIES, range(5)):
            for talk in itertools.product(turns, repeat=size):
                self.behind(2, lies, list(talk))

    def test_talks_of_many_questions(self):
        for talk in many_talks():
            for lies in ALL_LIES:
                self.behind(8, lies, talk)

    def test_a_very_long_talk(self):
        self.behind(8, 2, [([0, 7], True), ([1, 2, 3, 4, 5, 6], False)] * 3000)

    def test_a_talk_is_marked_question_by_question(self):
        for talk in many_talks():
            for lies in ALL_LIES:
                marks = begun(8)
                for asked, yes in talk:
                    marks = after(marks, lies, asked, yes)
                self.assertEqual(marked(8, lies, talk), marks)


if __name__ == "__main__":
    unittest.main()
