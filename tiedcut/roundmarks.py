"""Rounds: the marks that one passes going once round a part of a forest."""

from tiedcut.forests import tie_of
from tiedcut.marks import is_mark
from tiedcut.walking import neighbours


def is_round(thing):
    """Whether thing, of anything, is a round, its ties without a ring."""
    if not isinstance(thing, tuple) or not all(is_mark(mark) for mark in thing):
        return False
    if len(thing) == 0 or thing[0][0] != "point":
        return False
    return len(set(thing)) == len(thing) and leads_round(thing) and is_full(thing)


def leads_round(marks):
    """Whether one can go along marks, the first of them a point's, and stands in the end where one began."""
    start = marks[0][1]
    here = start
    for mark in marks:
        if mark[1] != here:
            return False
        here = mark[-1]
    return here == start


def is_full(marks):
    """Whether marks that lead round, none twice, have all that they must have, and ties without a ring."""
    overs = [mark for mark in marks if mark[0] == "over"]
    points = [mark[1] for mark in marks if mark[0] == "point"]
    if set(points) != {mark[1] for mark in marks} or set(overs) != {(word, b, a) for word, a, b in overs}:
        return False
    # All points that one comes to are joined: there is no ring just where they have a tie less than points.
    return len(ties_of_round(marks)) == len(points) - 1


def ties_of_round(marks):
    """The rising tuple of a round's ties."""
    return tuple(sorted({tie_of(mark[1], mark[2]) for mark in marks if mark[0] == "over"}))


def round_from(forest, p):
    """A round of p's part of a forest that begins with p's mark, each point's mark where one comes to it first."""
    around = neighbours(forest)
    marks = [("point", p)]
    seen = {p: True}
    waiting = [("over", p, q) for q in around[p]]
    while waiting:
        mark = waiting.pop()
        marks.append(mark)
        word, a, b = mark
        if b not in seen:
            seen[b] = True
            marks.append(("point", b))
            # What waits last is gone over first, so the over back to a comes behind all that lead on.
            waiting.append(("over", b, a))
            waiting.extend([("over", b, c) for c in around[b] if c != a])
    return tuple(marks)
