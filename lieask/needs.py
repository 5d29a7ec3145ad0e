"""Needs: how many questions are enough to find the thing, what to ask, and how to answer so that it lasts longest.

Which things have a mark does not matter to the need, only how many. So it is sought over tallies: a tuple that
tells for each mark from nought to the lies how many things have it. What is out is not in it. A question is then a
pick: a tuple that tells how many of the things of each mark are in it.

The dict `known` holds the needs of tallies already found, for one call from outside alone.
"""

from lieask.checks import check_lies, check_marks
from lieask.marks import after


def need(marks, lies):
    check_lies(lies)
    check_marks(marks, lies)
    return need_of(tally_of(marks, lies), {})


def question(marks, lies):
    check_lies(lies)
    check_marks(marks, lies)
    tally = tally_of(marks, lies)
    if is_found(tally):
        return None
    return things_of(best_pick(tally, {}), marks)


def answer(marks, lies, asked):
    # The checks are those of after, in their order.
    behind_yes = tally_of(after(marks, lies, asked, True), lies)
    behind_no = tally_of(after(marks, lies, asked, False), lies)
    known = {}
    return need_of(behind_yes, known) >= need_of(behind_no, known)


def tally_of(marks, lies):
    return tuple([marks.count(mark) for mark in range(lies + 1)])


def is_found(tally):
    return sum(tally) <= 1


def need_of(tally, known):
    if is_found(tally):
        return 0
    if tally not in known:
        known[tally] = 1 + need_behind(tally, best_pick(tally, known), known)
    return known[tally]


def best_pick(tally, known):
    return min(picks_that_tell(tally), key=lambda pick: need_behind(tally, pick, known))


def need_behind(tally, pick, known):
    rest = [count - picked for count, picked in zip(tally, pick)]
    # Yes marks the rest and no marks the pick; the other part stays as it is.
    return max(need_of(moved(pick, rest), known), need_of(moved(rest, pick), known))


def moved(kept, rising):
    # Each rising thing goes to the next mark; those of the last mark are out and fall away.
    return tuple([kept[mark] + (rising[mark - 1] if mark > 0 else 0) for mark in range(len(kept))])


def picks_that_tell(tally):
    # With no standing thing or all of them in the question, one answer changes nothing, so the need is no less behind
    # it. Every other question marks a standing thing whatever is answered: that is why the search comes to an end.
    return [pick for pick in all_picks(tally) if 0 < sum(pick) < sum(tally)]


def all_picks(tally):
    picks = [()]
    for count in tally:
        longer = []
        for pick in picks:
            longer.extend([pick + (picked,) for picked in range(count + 1)])
        picks = longer
    return picks


def things_of(pick, marks):
    left = list(pick)
    things = []
    for thing, mark in enumerate(marks):
        # What is out has a mark beyond the pick and need not be asked for.
        if mark < len(left) and left[mark] > 0:
            left[mark] -= 1
            things.append(thing)
    return things
