"""Strands: ways of a forest kept in turning trees, each one hung below a point of another one."""

from tiedcut.tallied import Tallied
from tiedcut.tallies import point_tally
from tiedcut.walking import least_points, steps_toward


class Strands(Tallied):
    """The points of a forest in strands.

    hung: for each point a pair (many, total) of all that hangs on it in other strands. beside: the same of it and
    of all below it in its strand's tree together.
    """

    def __init__(self, forest):
        super().__init__()
        self.hung = {}
        self.beside = {}
        for worth, kind in forest[0]:
            self.put_point(worth, kind)
        self.hang_ties(forest)

    def put_point(self, worth, kind):
        """Have one point more, a strand of its own: its number."""
        p = len(self.above)
        self.put_tallied(p, point_tally(p, worth, kind))
        self.hung[p] = (0, 0)
        self.beside[p] = (0, 0)
        return p

    def drop_last(self):
        """Have the last point no more, which is tied to none."""
        p = len(self.above) - 1
        self.drop_tallied(p)
        del self.hung[p], self.beside[p]

    def hang_ties(self, forest):
        """At the beginning each point is a strand of its own, hung below the next one toward its part's least one."""
        for p in least_points(forest):
            toward = steps_toward(forest, p)
            # Those farther out come first, so that all is hung on a point already when it is hung itself.
            for x in reversed(list(toward)):
                self.hang_under(x, toward[x])

    def hang_under(self, x, u):
        """Hang x, a top with nobody above it, below u, if that is anybody."""
        if u is not None:
            self.above[x] = u
            self.hung[u] = plus(self.hung[u], self.whole(x))
            self.refresh(u)

    def take_off(self, x):
        """Take x, a top below a top, off that one."""
        u = self.above[x]
        self.above[x] = None
        self.hung[u] = minus(self.hung[u], self.whole(x))
        self.refresh(u)

    def whole(self, x):
        """A pair (many, total) of x, all below it in its tree and all that hangs on these."""
        tally = self.tally[x]
        return plus((tally.many, tally.total), self.beside[x])

    def side(self, x):
        """A pair (many, total) of x alone and all that hangs on it in other strands."""
        own = self.own[x]
        return plus((own.many, own.total), self.hung[x])

    def refresh(self, x):
        """Reckon anew what x and all below it in its tree come to, and what hangs on them."""
        super().refresh(x)
        beside = self.hung[x]
        for y in self.below(x):
            beside = plus(beside, self.beside[y])
        self.beside[x] = beside

    def let_go(self, x):
        """Make what is behind x, a top, a strand of its own under it, if there is anything."""
        y = self.right[x]
        if y is not None:
            self.hung[x] = plus(self.hung[x], self.whole(y))
        super().let_go(x)

    def hang(self, x):
        """Make x, a top under a top that has nothing behind it, that one's right one."""
        u = self.above[x]
        self.hung[u] = minus(self.hung[u], self.whole(x))
        super().hang(x)

    def lead_up(self, p):
        """Lead p up: the tuple of the steps."""
        steps = self.lift_and_let(p)
        top = p
        while self.above[top] is not None:
            u = self.above[top]
            steps.extend(self.lift_and_let(u))
            self.hang(top)
            steps.append(("hang", top))
            top = u
        steps.extend([("turn", x) for x in self.lift_up(p)])
        return tuple(steps)

    def lift_and_let(self, x):
        """Lift x in its strand and let go what is behind it there: the list of the steps."""
        steps = [("turn", y) for y in self.lift_up(x)]
        self.let_go(x)
        steps.append(("let", x))
        return steps

    def lead_first(self, p):
        """Lead p up and turn its strand about, so that it begins with p."""
        self.lead_up(p)
        self.turned[p] = not self.turned[p]

    def first_fit(self, top, fits):
        """The first point in a strand's order of whose tally fits tells True, lifted; None where there is none.

        Of several points' tally fits tells whether there is such a one among them.
        """
        if not fits(self.tally[top]):
            return None
        x = top
        while not self.fits_here(x, fits):
            near = self.left[x]
            x = near if near is not None and fits(self.tally[near]) else self.right[x]
        self.lift_up(x)
        return x

    def fits_here(self, x, fits):
        """Whether x itself is the first point that fits among it and all below it in its tree."""
        self.push(x)
        near = self.left[x]
        return fits(self.own[x]) and (near is None or not fits(self.tally[near]))

    def kth_point(self, top, k):
        """The k-th point in a strand's order, from 0, which has more than so many, lifted."""
        x = top
        ahead = self.many_ahead(x)
        while k != ahead:
            if k < ahead:
                x = self.left[x]
            else:
                k -= ahead + 1
                x = self.right[x]
            ahead = self.many_ahead(x)
        self.lift_up(x)
        return x

    def many_ahead(self, x):
        """How many points are ahead of x among those below it in its tree."""
        self.push(x)
        near = self.left[x]
        return 0 if near is None else self.tally[near].many


def plus(pair, other):
    """Two pairs (many, total) together."""
    return (pair[0] + other[0], pair[1] + other[1])


def minus(pair, other):
    """What is left of a pair (many, total) without another."""
    return (pair[0] - other[0], pair[1] - other[1])
