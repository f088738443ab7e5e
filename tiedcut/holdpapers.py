"""Papers that show of each offer whether it holds its two points together alone."""

from tiedcut.offerways import are_offers, as_forest, leads_on
from tiedcut.tiedpapers import is_worded, sets_apart


def shows_holding(many, offers, thing):
    """Whether thing, of anything, has a right entry for each of these offers between points from 0 to many - 1."""
    if not isinstance(thing, tuple) or len(thing) != len(offers):
        return False
    return all(is_hold_entry(many, offers, number, entry) for number, entry in enumerate(thing))


def is_hold_entry(many, offers, number, thing):
    """Whether thing, of anything, shows of an offer that it holds, or that it doesn't."""
    if not is_worded(thing):
        return False
    word, numbers = thing
    a, b = offers[number]
    if word == "holds":
        others = offers[:number] + offers[number + 1:]
        return sets_apart(as_forest(many, others), a, b, numbers)
    return word == "round" and is_way_round(offers, number, numbers)


def is_way_round(offers, number, way):
    """Whether a tuple of whole numbers is other offers, none twice, that lead from an offer's a on to its b."""
    a, b = offers[number]
    return are_offers(offers, way) and number not in way and leads_on(offers, way, a, b)
