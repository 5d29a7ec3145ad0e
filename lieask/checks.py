"""What is refused of the values that several modules are handed.

The order of refusal is the caller's: lies, then marks, then the question.
"""

from lieask.errors import NoLies, NoMarks, NoQuestion

MOST_THINGS = 8
MOST_LIES = 2

# No error's words show the refused number: Python itself refuses to write a number of many thousand figures,
# and that error would come in the place of ours.


def check_lies(lies):
    if lies < 0 or lies > MOST_LIES:
        raise NoLies("the lies are 0, 1 or 2")


def check_things(things):
    if things < 1 or things > MOST_THINGS:
        raise NoMarks("there are 1 to 8 things")


def check_marks(marks, lies):
    check_things(len(marks))
    for mark in marks:
        if mark < 0 or mark > lies + 1:
            raise NoMarks("a mark is a number from nought to one more than the lies")


def check_question(asked, things):
    # Beginning one below the first thing, the test for rising refuses things below nought too.
    last = -1
    for thing in asked:
        if thing <= last or thing >= things:
            raise NoQuestion("a question is a rising list of things, each once")
        last = thing
