"""What the document says of rounds, reckoned once more, in as plain a way as can be, for the tests."""

from tests.brute import the_part


def the_round_ties(marks):
    return {tuple(sorted(mark[1:])) for mark in marks if mark[0] == "over"}


def without_ring(ties):
    """Whether no tie joins two points that the others join: each one taken out sets its two points apart."""
    many = max([1 + high for low, high in ties], default=1)
    return all(low != high and high not in the_part(((None,) * many, ties - {(low, high)}), low) for low, high in ties)


def the_is_round(marks):
    """Point [16] of a tuple of marks."""
    if not marks or marks[0][0] != "point":
        return False
    here = marks[0][1]
    come = [here]
    for word, *numbers in marks:
        if numbers[0] != here:
            return False
        if word == "over":
            here = numbers[1]
            come.append(here)
    if here != come[0] or any(marks.count(("point", p)) != 1 for p in come):
        return False
    if any(marks.count(mark) != 1 or marks.count((mark[0], *mark[:0:-1])) != 1 for mark in marks if mark[0] == "over"):
        return False
    return without_ring(the_round_ties(marks))


def walked(forest, p, chance, behind=None):
    """The points that one comes to, in order, going once round p's part, at each one's ties in an order by chance."""
    ways_on = [q for tie in forest[1] for a, q in (tie, tie[::-1]) if a == p and q != behind]
    chance.shuffle(ways_on)
    found = [p]
    for q in ways_on:
        found += walked(forest, q, chance, p) + [p]
    return found


def chance_round(forest, p, chance):
    """A round of p's part, each point's mark at one of the times that one is there, begun with a mark by chance."""
    steps = walked(forest, p, chance)
    times = {}
    for at, q in enumerate(steps):
        times.setdefault(q, []).append(at)
    chosen = {chance.choice(found) for found in times.values()}
    marks = []
    for at, q in enumerate(steps):
        if at in chosen:
            marks.append(("point", q))
        if at + 1 < len(steps):
            marks.append(("over", q, steps[at + 1]))
    starts = [at for at, mark in enumerate(marks) if mark[0] == "point"]
    at = chance.choice(starts)
    return tuple(marks[at:] + marks[:at])


def begun_at_each(marks):
    """The same round begun at each of its points."""
    return [marks[at:] + marks[:at] for at, mark in enumerate(marks) if mark[0] == "point"]


def parts_of(forest):
    """Each part, by its least point."""
    return sorted({the_part(forest, p) for p in range(len(forest[0]))})
