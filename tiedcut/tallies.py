"""Tallies: what points come to together, in whatever order."""


class Tally:
    """What some points come to; it is never changed, so that it can stand in several places.

    many: how many they are. total: their worths together. best: (worth, point), the greatest worth and the least
    point that has it, None of no points. least: a dict, for each kind that they have its least point.
    """

    def __init__(self, many, total, best, least):
        self.many = many
        self.total = total
        self.best = best
        self.least = least


def no_tally():
    """The tally of no points."""
    return Tally(0, 0, None, {})


def point_tally(p, worth, kind):
    """The tally of one point."""
    return Tally(1, worth, (worth, p), {kind: p})


def both(one, other):
    """The tally of two tallies' points together."""
    if one.many == 0:
        return other
    if other.many == 0:
        return one
    total = one.total + other.total
    return Tally(one.many + other.many, total, better(one.best, other.best), least_of_both(one.least, other.least))


def better(one, other):
    """Of two pairs (worth, point) the one with the greater worth, of like ones the one with the lesser point."""
    if one[0] == other[0]:
        return min(one, other)
    return max(one, other)


def least_of_both(one, other):
    """For each kind in two dicts its least point."""
    least = dict(one)
    for kind, p in other.items():
        least[kind] = min(p, least.get(kind, p))
    return least


def raised(tally, x):
    """The tally when each point's worth is x more."""
    if tally.many == 0:
        return tally
    worth, p = tally.best
    return Tally(tally.many, tally.total + x * tally.many, (worth + x, p), tally.least)


def painted(tally, kind):
    """The tally of one point when it has another kind."""
    return point_tally(tally.best[1], tally.total, kind)
