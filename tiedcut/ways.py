"""A keeper of a forest that has each way within others."""

from tiedcut.errors import NoPoint
from tiedcut.shapes import credit_of
from tiedcut.strands import Strands
from tiedcut.wayrows import do_way_row
from tiedcut.wholes import is_whole


class Ways:
    """A forest in strands: it does all rows but spread, top and least."""

    def __init__(self, forest):
        self.strands = Strands(forest)

    def do(self, row):
        """What a row is told, as the plain forest tells it."""
        return do_way_row(self.strands, row)

    def shape(self):
        """The shape of the strands' trees."""
        return self.strands.shape()

    def lead_up(self, p):
        """Lead p, of anything, up: the tuple of the steps."""
        if not is_whole(p) or not self.strands.has_name(p):
            raise NoPoint()
        return self.strands.lead_up(p)

    def forget(self):
        """Have the last point no more, which is tied to none."""
        self.strands.drop_last()

    def looks(self):
        """How many turns and lets there were so far."""
        return self.strands.looked

    def credit(self):
        """What is in store to pay for looks."""
        return 6 * credit_of(self.shape())
