"""The plain forest: each row done by going along ways and sides point by point."""

from tiedcut.errors import Apart, NoPlace, NoTie, Ring, TreeError
from tiedcut.forests import are_tied, tie_of, without_tie
from tiedcut.rows import is_deed, plain_word, refuse_unfit
from tiedcut.walking import meet_of, part_of, side_of, way_of


def asked_way(forest, a, b):
    """The way from a to b, refused where there is none."""
    way = way_of(forest, a, b)
    if way is None:
        raise Apart()
    return way


def asked_side(forest, p, q):
    """The side of (p, q), with None as q p's part, refused where p and q are no tied pair."""
    if q is None:
        return part_of(forest, p)
    refuse_untied(forest, p, q)
    return side_of(forest, p, q)


def refuse_untied(forest, a, b):
    """Refuse two points that are no tied pair."""
    if not are_tied(forest, a, b):
        raise NoTie()


def worths_of(forest, chosen):
    """The list of the worths of the chosen points, in their order."""
    points = forest[0]
    return [points[p][0] for p in chosen]


def greatest(forest, chosen):
    """(worth, point): the greatest worth, and the first of the chosen points that has it."""
    worths = worths_of(forest, chosen)
    worth = max(worths)
    return (worth, chosen[worths.index(worth)])


def first_of_kind(forest, chosen, kind):
    """The first of the chosen points that is of this kind, or None."""
    points = forest[0]
    for p in chosen:
        if points[p][1] == kind:
            return p
    return None


def with_point(forest, p, point):
    """The forest in which this point stands at number p."""
    points, ties = forest
    return (points[:p] + (point,) + points[p + 1:], ties)


def with_more(forest, chosen, x):
    """The forest in which the worths of the chosen points are x more."""
    points, ties = forest
    more = list(points)
    for p in chosen:
        worth, kind = points[p]
        more[p] = (worth + x, kind)
    return (tuple(more), ties)


def do_new(forest, row):
    """Put one point more."""
    points, ties = forest
    return ((*points, (row[1], row[2])), ties), len(points)


def do_put(forest, row):
    """Give a point another worth."""
    p = row[1]
    return with_point(forest, p, (row[2], forest[0][p][1])), None


def do_paint(forest, row):
    """Give a point another kind."""
    p = row[1]
    return with_point(forest, p, (forest[0][p][0], row[2])), None


def do_tie(forest, row):
    """Tie two points, refused where they are joined already."""
    points, ties = forest
    if way_of(forest, row[1], row[2]) is not None:
        raise Ring()
    return (points, tuple(sorted([*ties, tie_of(row[1], row[2])]))), None


def do_cut(forest, row):
    """Cut the tie of two points."""
    refuse_untied(forest, row[1], row[2])
    return without_tie(forest, row[1], row[2]), None


def do_add(forest, row):
    """Add to all worths on a way."""
    return with_more(forest, asked_way(forest, row[1], row[2]), row[3]), None


def do_spread(forest, row):
    """Add to all worths on a side."""
    return with_more(forest, asked_side(forest, row[1], row[2]), row[3]), None


def ask_joined(forest, row):
    """Whether there is a way."""
    return way_of(forest, row[1], row[2]) is not None


def ask_way(forest, row):
    """The way itself."""
    return asked_way(forest, row[1], row[2])


def ask_total(forest, row):
    """The worths on a way together."""
    return sum(worths_of(forest, asked_way(forest, row[1], row[2])))


def ask_many(forest, row):
    """How many points a way has."""
    return len(asked_way(forest, row[1], row[2]))


def ask_most(forest, row):
    """The greatest worth on a way, and the first point that has it."""
    return greatest(forest, asked_way(forest, row[1], row[2]))


def ask_first(forest, row):
    """The first point on a way that is of a kind, or None."""
    return first_of_kind(forest, asked_way(forest, row[1], row[2]), row[3])


def ask_reach(forest, row):
    """The first point on a way whose worth is so much or more, or None."""
    for p in asked_way(forest, row[1], row[2]):
        if forest[0][p][0] >= row[3]:
            return p
    return None


def ask_kth(forest, row):
    """The k-th point of a way, from 0."""
    way = asked_way(forest, row[1], row[2])
    if row[3] >= len(way):
        raise NoPlace()
    return way[row[3]]


def ask_meet(forest, row):
    """Where three points meet."""
    point = meet_of(forest, row[1], row[2], row[3])
    if point is None:
        raise Apart()
    return point


def ask_sum(forest, row):
    """The worths on a side together."""
    return sum(worths_of(forest, asked_side(forest, row[1], row[2])))


def ask_size(forest, row):
    """How many points a side has."""
    return len(asked_side(forest, row[1], row[2]))


def ask_top(forest, row):
    """The greatest worth on a side, and the least point that has it."""
    return greatest(forest, asked_side(forest, row[1], row[2]))


def ask_least(forest, row):
    """The least point on a side that is of a kind, or None."""
    return first_of_kind(forest, asked_side(forest, row[1], row[2]), row[3])


DEEDS = {
    "new": do_new,
    "put": do_put,
    "paint": do_paint,
    "tie": do_tie,
    "cut": do_cut,
    "add": do_add,
    "spread": do_spread,
}

ASKS = {
    "joined": ask_joined,
    "way": ask_way,
    "total": ask_total,
    "many": ask_many,
    "most": ask_most,
    "first": ask_first,
    "reach": ask_reach,
    "kth": ask_kth,
    "meet": ask_meet,
    "sum": ask_sum,
    "size": ask_size,
    "top": ask_top,
    "least": ask_least,
}


def plain_do(forest, row):
    """(forest, told): the forest behind a row, of an ask the same one, and what the row is told."""
    refuse_unfit(row, len(forest[0]))
    if is_deed(row):
        deed = DEEDS[row[0]]
        return deed(forest, row)
    ask = ASKS[row[0]]
    return forest, ask(forest, row)


def plain_rows(forest, rows):
    """(forest, told): the forest behind all rows, and a tuple of what each was told or refused with."""
    told = []
    for row in rows:
        try:
            forest, answer = plain_do(forest, row)
            told.append(answer)
        except TreeError as refusal:
            told.append(("refused", plain_word(refusal)))
    return forest, tuple(told)
