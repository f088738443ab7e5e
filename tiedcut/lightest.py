"""Offers with prices, of which the lightest that join all that can be joined are kept."""

from tiedcut.errors import NoRow
from tiedcut.forests import tie_of
from tiedcut.offerways import offers_along, refuse_ends
from tiedcut.wholes import is_whole


class Lightest:
    """The offers that came so far between points from 0 to many - 1.

    offers: all of them, (a, b, price). by_tie: for each tied pair of the forest that the kept ones make, the number
    of the kept one.
    """

    def __init__(self, many):
        self.many = many
        self.offers = []
        self.by_tie = {}

    def offer(self, a, b, price):
        """Take one offer more, of anything: the number of the one that is let go, or None."""
        if not is_whole(price) or price < 0:
            raise NoRow()
        refuse_ends(a, b, self.many)
        number = len(self.offers)
        self.offers.append((a, b, price))
        way = offers_along(self.many, self.by_tie, a, b)
        if way is None:
            self.keep(number)
            return None
        # Of several that are dearest the first one is taken, so the new one stands ahead of those on the way.
        gone = max([number, *way], key=lambda k: self.offers[k][2])
        if gone != number:
            del self.by_tie[self.tie(gone)]
            self.keep(number)
        return gone

    def tie(self, number):
        """The tied pair that an offer makes."""
        return tie_of(self.offers[number][0], self.offers[number][1])

    def keep(self, number):
        """Keep an offer whose points aren't joined by kept ones."""
        self.by_tie[self.tie(number)] = number

    def kept(self):
        """The rising tuple of the numbers of the kept ones."""
        return tuple(sorted(list(self.by_tie.values())))

    def price(self):
        """The price of the kept ones together."""
        return sum([self.offers[number][2] for number in self.by_tie.values()])

    def slacks(self):
        """For each offer the price that it is kept or let go by, or None.

        Of a kept one it is the least price of those let go on whose way it is: it stays as long as it isn't dearer.
        Of one let go it is the greatest price on its way.
        """
        found = [None for offer in self.offers]
        for number, way in self.paper():
            price = self.offers[number][2]
            for k in way:
                found[k] = price if found[k] is None else min(found[k], price)
            found[number] = max([self.offers[k][2] for k in way], default=None)
        return tuple(found)

    def paper(self):
        """A tuple of (number, numbers) for each one let go, numbers the kept ones on the way from its a to its b."""
        kept = self.kept()
        gone = [number for number in range(len(self.offers)) if number not in kept]
        return tuple([(number, self.way_of_offer(number)) for number in gone])

    def way_of_offer(self, number):
        """The tuple of the kept ones on the way from an offer's a to its b."""
        return offers_along(self.many, self.by_tie, self.offers[number][0], self.offers[number][1])
