"""Papers that show of kept offers that none that join as much have a lesser price."""

from tiedcut.forests import has_ring
from tiedcut.offerways import are_offers, leads_on
from tiedcut.wholes import is_rising, is_whole


def shows_lightest(many, offers, thing):
    """Whether thing, of anything, is (kept, paper) of these offers between points from 0 to many - 1."""
    if not isinstance(thing, tuple) or len(thing) != 2:
        return False
    kept, paper = thing
    return are_kept(many, offers, kept) and is_light_paper(offers, kept, paper)


def are_kept(many, offers, thing):
    """Whether thing, of anything, is a rising tuple of numbers of offers that have no ring."""
    if not are_offers(offers, thing) or not is_rising(thing):
        return False
    return not has_ring([offers[number][:2] for number in thing], many)


def is_light_paper(offers, kept, thing):
    """Whether thing, of anything, has a right entry for each offer that isn't kept, by rising numbers."""
    gone = [number for number in range(len(offers)) if number not in kept]
    if not isinstance(thing, tuple) or len(thing) != len(gone):
        return False
    return all(is_light_entry(offers, kept, number, entry) for number, entry in zip(gone, thing))


def is_light_entry(offers, kept, number, thing):
    """Whether thing, of anything, is the offer's number and kept ones, none dearer, that lead from its a to its b."""
    if not isinstance(thing, tuple) or len(thing) != 2:
        return False
    own, way = thing
    if not is_whole(own) or own != number or not are_offers(offers, way):
        return False
    a, b, price = offers[number]
    if not all(k in kept and offers[k][2] <= price for k in way):
        return False
    return leads_on(offers, way, a, b)
