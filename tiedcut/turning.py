"""One tree of names whose order stays while names are lifted."""

from tiedcut.links import Links


class Turning:
    """A tree of the names from 0 to many - 1, at first each one the right one of the one before."""

    def __init__(self, many):
        self.links = Links()
        self.links.put_name(0)
        for x in range(1, many):
            self.links.put_name(x)
            self.links.set_right(x - 1, x)
        self.top = 0

    def lift(self, x):
        """Lift x to the top: the tuple of the names turned, one by one."""
        self.top = x
        return self.links.lift_up(x)

    def order(self):
        """The tuple of the names in order."""
        return tuple(self.links.in_order(self.top))

    def shape(self):
        """The shape of the tree."""
        return self.links.shape()

    def turns(self):
        """How many turns there were so far."""
        return self.links.looked
