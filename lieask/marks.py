"""Marks: for each thing, how many answers so far are lies if it is the one that is thought of."""

from lieask.checks import check_lies, check_marks, check_question, check_things


def begun(things):
    check_things(things)
    return [0] * things


def after(marks, lies, asked, yes):
    check_lies(lies)
    check_marks(marks, lies)
    check_question(asked, len(marks))
    return [mark_after(mark, lies, (thing in asked) != yes) for thing, mark in enumerate(marks)]


def mark_after(mark, lies, lied):
    # One more than the lies stands for all greater numbers, so a mark never rises beyond it.
    return min(mark + 1, lies + 1) if lied else mark


def standing(marks, lies):
    check_lies(lies)
    check_marks(marks, lies)
    return [thing for thing, mark in enumerate(marks) if mark <= lies]


def marked(things, lies, talk):
    # Ahead of begun, since bad lies are refused ahead of a bad number of things, and in a talk of no question too.
    check_lies(lies)
    marks = begun(things)
    for asked, yes in talk:
        marks = after(marks, lies, asked, yes)
    return marks
