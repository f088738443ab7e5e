"""Offers that lead from one point on to another, by their numbers."""

from tiedcut.errors import NoRow
from tiedcut.forests import tie_of
from tiedcut.rows import refuse_missing
from tiedcut.walking import way_of
from tiedcut.wholes import are_wholes, is_whole


def refuse_ends(a, b, many):
    """Refuse two ends of an offer, of anything, that aren't points from 0 to many - 1."""
    if not is_whole(a) or not is_whole(b):
        raise NoRow()
    refuse_missing([a, b], many)


def as_forest(many, ties):
    """So many points and these ties, perhaps with rings, in a pair that can be gone along as a forest is."""
    return (tuple(range(many)), list(ties))


def offers_along(many, by_tie, a, b):
    """The tuple of offers' numbers that lead from a on to b, None where there is no way.

    by_tie: a dict, for each tied pair the number of an offer of these two points.
    """
    way = way_of(as_forest(many, by_tie), a, b)
    if way is None:
        return None
    return tuple([by_tie[tie_of(here, there)] for here, there in zip(way, way[1:])])


def are_offers(offers, thing):
    """Whether thing, of anything, is a tuple of offers' numbers, none twice."""
    if not are_wholes(thing) or len(set(thing)) != len(thing):
        return False
    return all(0 <= number < len(offers) for number in thing)


def leads_on(offers, numbers, a, b):
    """Whether the offers of these numbers, gone along one by one, lead from a on to b."""
    here = a
    for number in numbers:
        ends = offers[number][:2]
        if here not in ends:
            return False
        here = ends[1] if here == ends[0] else ends[0]
    return here == b
