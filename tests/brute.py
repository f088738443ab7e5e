"""What the document says of forests, reckoned once more, in as plain a way as can be, for the tests."""

from tests.rowmakers import DEEDS, POINTS_AT
from tiedcut.errors import Apart, NoPlace, NoPoint, NoTie, Ring


def tied(ties, p, q):
    return (p, q) in ties or (q, p) in ties


def all_ways(many, ties, a, b, behind=()):
    """Each row of points from a to b, neighbours tied, none twice."""
    if a == b:
        return [(*behind, b)]
    found = []
    for c in range(many):
        if c != a and c not in behind and tied(ties, a, c):
            found += all_ways(many, ties, c, b, (*behind, a))
    return found


def ringless(many, ties):
    """Whether of no two points there are two ways."""
    return all(len(all_ways(many, ties, a, b)) < 2 for a in range(many) for b in range(many))


def the_way(forest, a, b):
    points, ties = forest
    ways = all_ways(len(points), set(ties), a, b)
    return ways[0] if ways else None


def the_part(forest, a):
    """Names are spread along ties until nothing is new."""
    points, ties = forest
    part = {a}
    while True:
        more = part | {q for tie in ties for p, q in (tie, tie[::-1]) if p in part}
        if more == part:
            return tuple(sorted(part))
        part = more


def the_side(forest, p, q):
    points, ties = forest
    return the_part((points, [tie for tie in ties if set(tie) != {p, q}]), p)


def the_meeting(forest, a, b, c):
    ways = [the_way(forest, a, b), the_way(forest, b, c), the_way(forest, c, a)]
    if None in ways:
        return None
    common = set(ways[0]) & set(ways[1]) & set(ways[2])
    assert len(common) == 1
    return common.pop()


def chosen_points(forest, row):
    """The points that a row goes along, in order: a way, or a side that rises."""
    word, p, q = row[:3]
    if word in ("spread", "sum", "size", "top", "least"):
        if q is None:
            return the_part(forest, p)
        if not tied(forest[1], p, q):
            raise NoTie()
        return the_side(forest, p, q)
    way = the_way(forest, p, q)
    if way is None:
        raise Apart()
    return way


def the_deed(forest, row):
    """(forest, told) of a deed that is a row by its form and has points that are there."""
    points, ties = list(forest[0]), set(forest[1])
    told = None
    if row[0] == "new":
        points.append(row[1:])
        told = len(points) - 1
    elif row[0] == "put":
        points[row[1]] = (row[2], points[row[1]][1])
    elif row[0] == "paint":
        points[row[1]] = (points[row[1]][0], row[2])
    elif row[0] == "tie":
        if row[2] in the_part(forest, row[1]):
            raise Ring()
        ties.add(tuple(sorted(row[1:])))
    elif row[0] == "cut":
        if not tied(ties, row[1], row[2]):
            raise NoTie()
        ties.remove(tuple(sorted(row[1:])))
    else:
        for p in chosen_points(forest, row):
            points[p] = (points[p][0] + row[3], points[p][1])
    return (tuple(points), tuple(sorted(ties))), told


def the_answer(forest, row):
    """What an ask is told that is a row by its form and has points that are there."""
    word = row[0]
    if word == "joined":
        return row[2] in the_part(forest, row[1])
    if word == "meet":
        point = the_meeting(forest, *row[1:])
        if point is None:
            raise Apart()
        return point
    chosen = chosen_points(forest, row)
    worths = {p: forest[0][p][0] for p in chosen}
    if word == "way":
        return chosen
    if word in ("total", "sum"):
        return sum(worths.values())
    if word in ("many", "size"):
        return len(chosen)
    if word in ("most", "top"):
        p = sorted(chosen, key=lambda p: (-worths[p], chosen.index(p)))[0]
        return (worths[p], p)
    if word == "kth":
        if row[3] >= len(chosen):
            raise NoPlace()
        return chosen[row[3]]
    if word == "reach":
        fit = [p for p in chosen if worths[p] >= row[3]]
    else:
        fit = [p for p in chosen if forest[0][p][1] == row[3]]
    return fit[0] if fit else None


def the_outcome(forest, row):
    """(forest, told) of any row by its form."""
    numbers = [row[k] for k in POINTS_AT[row[0]] if row[k] is not None]
    if any(number not in range(len(forest[0])) for number in numbers):
        raise NoPoint()
    if row[0] in DEEDS:
        return the_deed(forest, row)
    return forest, the_answer(forest, row)
