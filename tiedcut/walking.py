"""Ways, parts, sides, and where three points meet."""

from tiedcut.forests import without_tie


def way_of(forest, a, b):
    """The way from a to b, or None where there is none."""
    toward = steps_toward(forest, b)
    if a not in toward:
        return None
    way = [a]
    while way[-1] != b:
        way.append(toward[way[-1]])
    return tuple(way)


def part_of(forest, a):
    """The rising tuple of all points that are joined with a, and a itself."""
    return tuple(sorted(list(steps_toward(forest, a))))


def least_points(forest):
    """The rising list of each part's least point."""
    found = {}
    least = []
    for p in range(len(forest[0])):
        if p not in found:
            least.append(p)
            found.update(steps_toward(forest, p))
    return least


def side_of(forest, p, q):
    """The rising tuple of the points that are joined with p when the tie of p and q is cut."""
    return part_of(without_tie(forest, p, q), p)


def meet_of(forest, a, b, c):
    """The one point on all three ways between a, b and c, or None where not all are joined."""
    there = way_of(forest, a, b)
    back = way_of(forest, c, a)
    if there is None or back is None:
        return None
    # Both ways have a at one end, so the last point of the first one that the other has, too,
    # is where they part, and the way from b to c passes there.
    shared = [point for point in there if point in back]
    return shared[-1]


def steps_toward(forest, goal):
    """For each point that is joined with goal, the next one on its way there (None for goal itself)."""
    around = neighbours(forest)
    toward = {goal: None}
    waiting = [goal]
    while waiting:
        here = waiting.pop()
        for there in around[here]:
            if there not in toward:
                toward[there] = here
                waiting.append(there)
    return toward


def neighbours(forest):
    """For each point the list of those that it is tied to."""
    points, ties = forest
    around = [[] for point in points]
    for a, b in ties:
        around[a].append(b)
        around[b].append(a)
    return around
