"""The rows that a Ways does, each one by leading points of its strands up."""

from tiedcut.errors import Apart, NoPlace, NoTie, Ring
from tiedcut.rows import refuse_undone


def lead_way(strands, a, b):
    """Make the way from a to b a strand of its own with b on top, refused where there is none."""
    strands.lead_first(a)
    strands.lead_up(b)
    refuse_apart(strands, a, b)


def refuse_apart(strands, a, b):
    """Refuse a, the point that was led up last but one, and b, the last one, where they aren't joined."""
    if not led_to_joined(strands, a, b):
        raise Apart()


def led_to_joined(strands, a, b):
    """Whether a, the point that was led up last but one, is joined with b, the last one: then b came above it."""
    return a == b or strands.above[a] is not None


def lead_tie(strands, p, q):
    """Make the way from q to p a strand with p on top, refused where they are no tied pair."""
    strands.lead_first(q)
    strands.lead_up(p)
    if p == q or not led_to_joined(strands, q, p) or strands.tally[p].many != 2:
        raise NoTie()


def asked_pair(strands, p, q):
    """(many, total) of the side of (p, q), with None as q of p's part."""
    if q is None:
        strands.lead_up(p)
        return strands.whole(p)
    lead_tie(strands, p, q)
    return strands.side(p)


def way_new(strands, row):
    """Put one point more."""
    return strands.put_point(row[1], row[2])


def way_put(strands, row):
    """Give a point another worth."""
    strands.lead_up(row[1])
    strands.put_worth(row[1], row[2])


def way_paint(strands, row):
    """Give a point another kind."""
    strands.lead_up(row[1])
    strands.put_kind(row[1], row[2])


def way_tie(strands, row):
    """Tie two points, refused where they are joined already."""
    a, b = row[1], row[2]
    strands.lead_first(a)
    strands.lead_up(b)
    if led_to_joined(strands, a, b):
        raise Ring()
    strands.hang_under(a, b)


def way_cut(strands, row):
    """Cut the tie of two points."""
    a, b = row[1], row[2]
    lead_tie(strands, b, a)
    # a is the first one there, so that it lets b go when it is led up, and has it straight below it.
    strands.lead_up(a)
    strands.take_off(b)


def way_add(strands, row):
    """Add to all worths on a way."""
    lead_way(strands, row[1], row[2])
    strands.raise_all(row[2], row[3])


def way_joined(strands, row):
    """Whether there is a way."""
    strands.lead_up(row[1])
    strands.lead_up(row[2])
    return led_to_joined(strands, row[1], row[2])


def way_points(strands, row):
    """The way itself."""
    lead_way(strands, row[1], row[2])
    return tuple(strands.in_order(row[2]))


def way_total(strands, row):
    """The worths on a way together."""
    lead_way(strands, row[1], row[2])
    return strands.tally[row[2]].total


def way_many(strands, row):
    """How many points a way has."""
    lead_way(strands, row[1], row[2])
    return strands.tally[row[2]].many


def way_most(strands, row):
    """The greatest worth on a way, and the first point that has it."""
    lead_way(strands, row[1], row[2])
    worth = strands.tally[row[2]].best[0]
    return (worth, strands.first_fit(row[2], lambda tally: tally.best[0] == worth))


def way_first(strands, row):
    """The first point on a way that is of a kind, or None."""
    lead_way(strands, row[1], row[2])
    return strands.first_fit(row[2], lambda tally: row[3] in tally.least)


def way_reach(strands, row):
    """The first point on a way whose worth is so much or more, or None."""
    lead_way(strands, row[1], row[2])
    return strands.first_fit(row[2], lambda tally: tally.best[0] >= row[3])


def way_kth(strands, row):
    """The k-th point of a way, from 0."""
    lead_way(strands, row[1], row[2])
    if row[3] >= strands.tally[row[2]].many:
        raise NoPlace()
    return strands.kth_point(row[2], row[3])


def way_meet(strands, row):
    """Where three points meet."""
    a, b, c = row[1:]
    lead_way(strands, a, b)
    steps = strands.lead_up(c)
    refuse_apart(strands, b, c)
    # The last point that let something go is the one where c's way comes to the way from a to b.
    return [x for word, x in steps if word == "let"][-1]


def way_sum(strands, row):
    """The worths on a side together."""
    return asked_pair(strands, row[1], row[2])[1]


def way_size(strands, row):
    """How many points a side has."""
    return asked_pair(strands, row[1], row[2])[0]


WAY_ROWS = {
    "new": way_new,
    "put": way_put,
    "paint": way_paint,
    "tie": way_tie,
    "cut": way_cut,
    "add": way_add,
    "joined": way_joined,
    "way": way_points,
    "total": way_total,
    "many": way_many,
    "most": way_most,
    "first": way_first,
    "reach": way_reach,
    "kth": way_kth,
    "meet": way_meet,
    "sum": way_sum,
    "size": way_size,
}


def do_way_row(strands, row):
    """Do a row, of anything: what it is told."""
    refuse_undone(row, list(WAY_ROWS), len(strands.above))
    action = WAY_ROWS[row[0]]
    return action(strands, row)
