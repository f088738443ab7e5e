"""Kinds, points, ties and forests."""

from tiedcut.wholes import are_wholes, is_rising, is_whole

KINDS = ("a", "b", "c", "d", "e", "f", "g", "h")


def is_kind(thing):
    """Whether thing, of anything, is a kind."""
    return isinstance(thing, str) and thing in KINDS


def is_forest(thing):
    """Whether thing, of anything, is a forest."""
    if not isinstance(thing, tuple) or len(thing) != 2:
        return False
    points, ties = thing
    return are_points(points) and are_ties(ties, len(points))


def are_points(thing):
    """Whether thing, of anything, is a tuple of one or more points."""
    return isinstance(thing, tuple) and len(thing) > 0 and all(is_point(point) for point in thing)


def is_point(thing):
    """Whether thing, of anything, is a point: its worth and its kind."""
    return isinstance(thing, tuple) and len(thing) == 2 and is_whole(thing[0]) and is_kind(thing[1])


def are_ties(thing, many):
    """Whether thing, of anything, is the ties of a forest of so many points."""
    if not isinstance(thing, tuple) or not all(is_tie(tie, many) for tie in thing):
        return False
    return is_rising(thing) and not has_ring(thing, many)


def is_tie(thing, many):
    """Whether thing, of anything, is a pair of points, of so many, the lesser one first."""
    return are_wholes(thing) and len(thing) == 2 and 0 <= thing[0] < thing[1] < many


def has_ring(ties, many):
    """Whether some tie joins two points that the ties ahead of it join already."""
    above = list(range(many))
    for a, b in ties:
        top = top_of(above, a)
        other = top_of(above, b)
        if top == other:
            return True
        above[other] = top
    return False


def top_of(above, point):
    """The point that stands for all that are joined with this one: the one that is above itself."""
    while above[point] != point:
        point = above[point]
    return point


def tie_of(a, b):
    """The tie of two points as a forest has it, whichever of them is named first."""
    return (min(a, b), max(a, b))


def are_tied(forest, a, b):
    """Whether two whole numbers are a tied pair of a forest, either way about."""
    return tie_of(a, b) in forest[1]


def without_tie(forest, a, b):
    """The forest without the tie of a and b."""
    points, ties = forest
    gone = tie_of(a, b)
    return (points, tuple(tie for tie in ties if tie != gone))
