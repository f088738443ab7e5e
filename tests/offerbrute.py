"""What the document says of offers, reckoned once more, in as plain a way as can be, for the tests."""

import itertools


def joined_with(offers, numbers, a):
    """All points that the offers of these numbers join with a: spread along them until nothing is new."""
    found = {a}
    while True:
        more = found | {end for k in numbers for end in offers[k][:2] if found & set(offers[k][:2])}
        if more == found:
            return found
        found = more


def way_by(offers, numbers, a, b, behind=()):
    """The numbers of those offers, without a ring, that lead from a to b, in order, or None."""
    if a == b:
        return ()
    for k in numbers:
        ends = list(offers[k][:2])
        if a in ends and k not in behind:
            ends.remove(a)
            on = way_by(offers, numbers, ends[0], b, (*behind, k))
            if on is not None:
                return (k, *on)
    return None


def trails(offers, numbers, a, b, behind=()):
    """Each tuple of these numbers, none twice, that leads from a on to b."""
    found = [behind] if a == b else []
    for k in numbers:
        if k not in behind and a in offers[k][:2]:
            low, high = offers[k][:2]
            found += trails(offers, numbers, high if a == low else low, b, (*behind, k))
    return found


def all_kept(offers):
    """For each offer in turn (kept ones behind it, number let go or None), as point [21] tells."""
    kept = []
    found = []
    for number, (a, b, price) in enumerate(offers):
        gone = None
        if b in joined_with(offers, kept, a):
            way = way_by(offers, kept, a, b)
            dearer = [k for k in way if offers[k][2] > price]
            gone = number
            if dearer:
                most = max(offers[k][2] for k in dearer)
                gone = [k for k in way if offers[k][2] == most][0]
        kept = [k for k in [*kept, number] if k != gone]
        found.append((tuple(kept), gone))
    return found


def the_paper(offers, kept):
    return tuple((k, way_by(offers, kept, *offers[k][:2])) for k in range(len(offers)) if k not in kept)


def the_slacks(offers, kept):
    ways = dict(the_paper(offers, kept))
    found = []
    for number in range(len(offers)):
        if number in kept:
            prices = [offers[k][2] for k, way in ways.items() if number in way]
            found.append(min(prices) if prices else None)
        else:
            prices = [offers[k][2] for k in ways[number]]
            found.append(max(prices) if prices else None)
    return tuple(found)


def parts_by(many, offers, numbers):
    return {frozenset(joined_with(offers, numbers, a)) for a in range(many)}


def least_price(many, offers):
    """The least price of all sets of offers that join all that can be joined."""
    whole = parts_by(many, offers, range(len(offers)))
    prices = []
    for size in range(len(offers) + 1):
        for numbers in itertools.combinations(range(len(offers)), size):
            if parts_by(many, offers, numbers) == whole:
                prices.append(sum(offers[k][2] for k in numbers))
    return min(prices)


def the_holding(offers):
    """The numbers of those that hold: each one taken out, and looked whether its points are joined."""
    found = []
    for number, (a, b) in enumerate(offers):
        others = [k for k in range(len(offers)) if k != number]
        if b not in joined_with(offers, others, a):
            found.append(number)
    return tuple(found)


def the_right_entry(many, offers, number, entry):
    """Point [24] of an entry of a word and a tuple of whole numbers."""
    word, numbers = entry
    a, b = offers[number]
    others = [k for k in range(len(offers)) if k != number]
    if word == "holds":
        if list(numbers) != sorted(set(numbers)) or not set(numbers) <= set(range(many)):
            return False
        if a not in numbers or b in numbers:
            return False
        return all(len({end in numbers for end in offers[k]}) == 1 for k in others)
    if word != "round" or len(set(numbers)) != len(numbers) or not set(numbers) <= set(others):
        return False
    places = {a}
    for k in numbers:
        places = {high for low, high in (offers[k], offers[k][::-1]) if low in places}
    return b in places
