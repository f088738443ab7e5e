"""A keeper of a forest that has each part as a round of marks in one turning tree."""

from tiedcut.errors import NoPlace, NoPoint
from tiedcut.marks import is_mark
from tiedcut.ranks import rank
from tiedcut.roundrows import do_round_row
from tiedcut.roundtrees import RoundTrees
from tiedcut.shapes import credit_of
from tiedcut.wholes import is_whole


class Rounds:
    """A forest in rounds: it does new, put, paint, tie, cut, spread, joined, sum, size, top and least."""

    def __init__(self, forest):
        self.trees = RoundTrees(forest)

    def do(self, row):
        """What a row is told, as the plain forest tells it."""
        return do_round_row(self.trees, row)

    def round(self, p):
        """A round of p's part that begins with p's mark."""
        if not is_whole(p) or not 0 <= p < self.trees.points:
            raise NoPoint()
        return self.trees.round_at(p)

    def shape(self):
        """The shape of the trees."""
        return self.trees.shape()

    def lift(self, mark):
        """Lift a mark, of anything, to the top of its tree: the tuple of the marks turned, one by one."""
        if not is_mark(mark) or not self.trees.has_name(mark):
            raise NoPlace()
        return self.trees.lift_up(mark)

    def forget(self):
        """Have the last point no more, which is tied to none."""
        self.trees.drop_last()

    def looks(self):
        """How many turns there were so far."""
        return self.trees.looked

    def credit(self):
        """What is in store to pay for looks."""
        return 2 * credit_of(self.shape())


def rounds_bound(n):
    """How many looks a row or a round has at most in a Rounds of n points, but for the credit that it takes."""
    return 70 * rank(3 * n) + 20
