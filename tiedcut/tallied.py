"""Trees that know of each name what it and all below it in its tree come to."""

from tiedcut.links import Links
from tiedcut.tallies import both, painted, raised


class Tallied(Links):
    """Links of which each name has a tally of its own and one of all below it, too.

    more: what the worths of all below a name, but not its own, are still to be raised by.
    """

    def __init__(self):
        super().__init__()
        self.own = {}
        self.tally = {}
        self.more = {}

    def put_tallied(self, x, tally):
        """Have one name more, alone, with this tally of its own."""
        self.put_name(x)
        self.own[x] = tally
        self.tally[x] = tally
        self.more[x] = 0

    def drop_tallied(self, x):
        """Have a name no more that nothing else is linked with."""
        self.drop_name(x)
        del self.own[x], self.tally[x], self.more[x]

    def refresh(self, x):
        """Reckon the tally of x and all below it anew."""
        tally = self.own[x]
        for y in self.below(x):
            tally = both(tally, self.tally[y])
        self.tally[x] = tally

    def push(self, x):
        """Leave nothing that is still to be done at x."""
        super().push(x)
        if self.more[x] != 0:
            for y in self.below(x):
                self.raise_all(y, self.more[x])
            self.more[x] = 0

    def raise_all(self, x, more):
        """Raise the worths of x and of all below it in its tree."""
        self.own[x] = raised(self.own[x], more)
        self.tally[x] = raised(self.tally[x], more)
        self.more[x] += more

    def put_worth(self, x, worth):
        """Give the point at x, a top, another worth."""
        self.own[x] = raised(self.own[x], worth - self.own[x].total)
        self.refresh(x)

    def put_kind(self, x, kind):
        """Give the point at x, a top, another kind."""
        self.own[x] = painted(self.own[x], kind)
        self.refresh(x)
