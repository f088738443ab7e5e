"""Rounds of marks kept in turning trees, one for each part of a forest."""

from tiedcut.roundmarks import round_from
from tiedcut.tallied import Tallied
from tiedcut.tallies import both, no_tally, point_tally
from tiedcut.walking import least_points


class RoundTrees(Tallied):
    """The rounds of a forest's parts, each one in the order of a tree, begun anywhere.

    points: how many points there are.
    """

    def __init__(self, forest):
        super().__init__()
        self.points = 0
        for worth, kind in forest[0]:
            self.put_point(worth, kind)
        for a, b in forest[1]:
            self.put_tallied(("over", a, b), no_tally())
            self.put_tallied(("over", b, a), no_tally())
        for p in least_points(forest):
            self.grow(round_from(forest, p))

    def put_point(self, worth, kind):
        """Have one point more, a round of its own: its number."""
        p = self.points
        self.put_tallied(("point", p), point_tally(p, worth, kind))
        self.points += 1
        return p

    def drop_last(self):
        """Have the last point no more, which is tied to none."""
        self.points -= 1
        self.drop_tallied(("point", self.points))

    def grow(self, marks):
        """Make a tree of marks that are alone, in this order, as low as can be: its top, or None of no marks."""
        if len(marks) == 0:
            return None
        middle = len(marks) // 2
        top = marks[middle]
        self.link(top, self.grow(marks[:middle]), self.grow(marks[middle + 1:]))
        return top

    def link(self, x, near, far):
        """Put the trees with these tops, or None, ahead of x and behind it, which is alone."""
        self.set_left(x, near)
        self.set_right(x, far)
        self.refresh(x)

    def take_left(self, x):
        """Take off what is ahead of x below it: the top of that, or None."""
        y = self.left[x]
        if y is not None:
            self.set_left(x, None)
            self.above[y] = None
            self.refresh(x)
        return y

    def take_right(self, x):
        """Take off what is behind x below it: the top of that, or None."""
        y = self.right[x]
        if y is not None:
            self.set_right(x, None)
            self.above[y] = None
            self.refresh(x)
        return y

    def join_trees(self, near, far):
        """Make one tree of two, given by their tops, or None: first the one, then the other."""
        if near is not None and far is not None:
            last = near
            while self.right[last] is not None:
                last = self.right[last]
            self.lift_up(last)
            self.set_right(last, far)
            self.refresh(last)

    def lift_both(self, one, other):
        """Lift two marks of a round, one to the top, the other straight below it."""
        self.lift_up(one)
        self.lift_up(other, one)

    def tie_points(self, a, b):
        """Tie two points whose marks are on top of two trees."""
        there, back = ("over", a, b), ("over", b, a)
        self.put_tallied(there, no_tally())
        self.put_tallied(back, no_tally())
        one, other = ("point", a), ("point", b)
        behind_a = self.take_right(one)
        ahead_of_b = self.take_left(other)
        # Behind a's mark one goes over to b, once round from b's mark, and back.
        self.link(there, one, other)
        self.link(back, ahead_of_b, behind_a)
        self.join_trees(there, back)

    def cut_points(self, a, b):
        """Cut the tie of a tied pair: what stands between both its overs is one round, the rest another."""
        top, low = ("over", a, b), ("over", b, a)
        self.lift_both(top, low)
        if self.right[top] == low:
            ahead, behind = self.take_left(top), self.take_right(low)
            self.take_left(low)
        else:
            ahead, behind = self.take_left(low), self.take_right(top)
            self.take_right(low)
        # Both overs are linked with one another alone by now.
        self.drop_tallied(top)
        self.drop_tallied(low)
        self.join_trees(ahead, behind)

    def side_tops(self, p, q):
        """The list of the tops of what the side of a tied pair (p, q) is kept in, its two overs above these."""
        to_p, from_p = ("over", q, p), ("over", p, q)
        self.lift_both(to_p, from_p)
        tops = [self.left[from_p]]
        if self.left[to_p] == from_p:
            # The round was begun within the side.
            tops.append(self.right[to_p])
        return [top for top in tops if top is not None]

    def side_tally(self, p, q):
        """The tally of the side of a tied pair (p, q), with None as q of p's part."""
        if q is None:
            self.lift_up(("point", p))
            return self.tally[("point", p)]
        tally = no_tally()
        for top in self.side_tops(p, q):
            tally = both(tally, self.tally[top])
        return tally

    def raise_side(self, p, q, more):
        """Raise the worths of the side of a tied pair (p, q), with None as q of p's part."""
        if q is None:
            self.lift_up(("point", p))
            self.raise_all(("point", p), more)
            return
        for top in self.side_tops(p, q):
            self.raise_all(top, more)
        self.refresh(("over", p, q))
        self.refresh(("over", q, p))

    def are_joined(self, a, b):
        """Whether two points are joined: then b's mark, lifted last, comes above a's."""
        self.lift_up(("point", a))
        self.lift_up(("point", b))
        return a == b or self.above[("point", a)] is not None

    def round_at(self, p):
        """The round of p's part that begins with p's mark."""
        mark = ("point", p)
        self.lift_up(mark)
        marks = self.in_order(mark)
        start = marks.index(mark)
        return tuple(marks[start:] + marks[:start])
