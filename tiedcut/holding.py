"""Offers of which each one is known to hold its two points together alone, or not."""

from tiedcut.errors import NoPlace
from tiedcut.forests import tie_of
from tiedcut.offerways import as_forest, offers_along, refuse_ends
from tiedcut.walking import part_of
from tiedcut.wholes import is_whole


class Holding:
    """The offers (a, b) that came so far between points from 0 to many - 1."""

    def __init__(self, many):
        self.many = many
        self.offers = []

    def offer(self, a, b):
        """Take one offer more, of anything."""
        refuse_ends(a, b, self.many)
        self.offers.append((a, b))

    def holds(self, number):
        """Whether the offer of a number, of anything, holds: its two points aren't joined by the others."""
        if not is_whole(number) or not 0 <= number < len(self.offers):
            raise NoPlace()
        return self.way_round(number) is None

    def holding(self):
        """The rising tuple of the numbers of those that hold."""
        return tuple([number for number in range(len(self.offers)) if self.holds(number)])

    def paper(self):
        """For each offer in order what shows whether it holds."""
        return tuple([self.entry(number) for number in range(len(self.offers))])

    def entry(self, number):
        """What shows whether an offer holds: the points on its one side, or a way round it."""
        way = self.way_round(number)
        if way is None:
            a = self.offers[number][0]
            return ("holds", part_of(as_forest(self.many, self.others(number)), a))
        return ("round", way)

    def way_round(self, number):
        """The tuple of other offers that lead from an offer's a on to its b, or None."""
        a, b = self.offers[number]
        return offers_along(self.many, self.others(number), a, b)

    def others(self, number):
        """A dict: for each tied pair of the other offers one of their numbers."""
        return {tie_of(a, b): k for k, (a, b) in enumerate(self.offers) if k != number}
