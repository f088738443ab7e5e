"""The rows that a Rounds does, each one by lifting marks of its trees."""

from tiedcut.errors import NoTie, Ring
from tiedcut.rows import refuse_undone


def refuse_no_tie(trees, p, q):
    """Refuse two points that are no tied pair; None as q stands for p's part."""
    if q is not None and not trees.has_name(("over", p, q)):
        raise NoTie()


def asked_tally(trees, row):
    """The tally of the side that a row asks of."""
    refuse_no_tie(trees, row[1], row[2])
    return trees.side_tally(row[1], row[2])


def round_new(trees, row):
    """Put one point more."""
    return trees.put_point(row[1], row[2])


def round_put(trees, row):
    """Give a point another worth."""
    trees.lift_up(("point", row[1]))
    trees.put_worth(("point", row[1]), row[2])


def round_paint(trees, row):
    """Give a point another kind."""
    trees.lift_up(("point", row[1]))
    trees.put_kind(("point", row[1]), row[2])


def round_tie(trees, row):
    """Tie two points, refused where they are joined already."""
    if trees.are_joined(row[1], row[2]):
        raise Ring()
    trees.tie_points(row[1], row[2])


def round_cut(trees, row):
    """Cut the tie of two points."""
    refuse_no_tie(trees, row[1], row[2])
    trees.cut_points(row[1], row[2])


def round_spread(trees, row):
    """Add to all worths on a side."""
    refuse_no_tie(trees, row[1], row[2])
    trees.raise_side(row[1], row[2], row[3])


def round_joined(trees, row):
    """Whether there is a way."""
    return trees.are_joined(row[1], row[2])


def round_sum(trees, row):
    """The worths on a side together."""
    return asked_tally(trees, row).total


def round_size(trees, row):
    """How many points a side has."""
    return asked_tally(trees, row).many


def round_top(trees, row):
    """The greatest worth on a side, and the least point that has it."""
    return asked_tally(trees, row).best


def round_least(trees, row):
    """The least point on a side that is of a kind, or None."""
    return asked_tally(trees, row).least.get(row[3])


ROUND_ROWS = {
    "new": round_new,
    "put": round_put,
    "paint": round_paint,
    "tie": round_tie,
    "cut": round_cut,
    "spread": round_spread,
    "joined": round_joined,
    "sum": round_sum,
    "size": round_size,
    "top": round_top,
    "least": round_least,
}


def do_round_row(trees, row):
    """Do a row, of anything: what it is told."""
    refuse_undone(row, list(ROUND_ROWS), trees.points)
    action = ROUND_ROWS[row[0]]
    return action(trees, row)
