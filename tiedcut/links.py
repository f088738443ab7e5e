"""Trees of names that turn themselves."""


class Links:
    """For each name its left one, its right one and the one above it, or None.

    A name may be below another without being its left or right one: then it is the top of a tree of its own, too.
    At a turned name left and right are still to be exchanged, for it and for all below it in its tree.
    """

    def __init__(self):
        self.left = {}
        self.right = {}
        self.above = {}
        self.turned = {}
        self.looked = 0

    def take_rows(self, shape):
        """Have the names of a shape, linked as it says."""
        for name, left, right, above, turned in shape:
            self.left[name] = left
            self.right[name] = right
            self.above[name] = above
            self.turned[name] = turned

    def shape(self):
        """The shape that all names make."""
        names = sorted(list(self.above))
        return tuple([(x, self.left[x], self.right[x], self.above[x], self.turned[x]) for x in names])

    def put_name(self, x):
        """Have one name more, alone."""
        self.take_rows([(x, None, None, None, False)])

    def drop_name(self, x):
        """Have a name no more that nothing else is linked with."""
        del self.left[x], self.right[x], self.above[x], self.turned[x]

    def has_name(self, x):
        """Whether a name is there."""
        return x in self.above

    def below(self, x):
        """The list of x's left and right one, as far as there are any."""
        return [y for y in (self.left[x], self.right[x]) if y is not None]

    def is_top(self, x):
        """Whether x is the top of its tree."""
        u = self.above[x]
        return u is None or x not in (self.left[u], self.right[u])

    def tops(self):
        """The list of the tops of all trees."""
        return [x for x in self.above if self.is_top(x)]

    def refresh(self, x):
        """Reckon anew what is known of x and all below it in its tree: here nothing."""

    def push(self, x):
        """Exchange x's left and right one if they are still to be; for those below it, it is then still to be done."""
        if self.turned[x]:
            self.left[x], self.right[x] = self.right[x], self.left[x]
            self.turned[x] = False
            for y in self.below(x):
                self.turned[y] = not self.turned[y]

    def push_down_to(self, x):
        """Leave nothing that is still to be done at x or above it in its tree."""
        path = [x]
        while not self.is_top(path[-1]):
            path.append(self.above[path[-1]])
        for y in reversed(path):
            self.push(y)

    def set_left(self, x, y):
        """Make y, or nothing, x's left one."""
        self.left[x] = y
        if y is not None:
            self.above[y] = x

    def set_right(self, x, y):
        """Make y, or nothing, x's right one."""
        self.right[x] = y
        if y is not None:
            self.above[y] = x

    def put_in_place(self, x, u):
        """Put x where u is below others, or on top."""
        over = self.above[u]
        self.above[x] = over
        if over is not None and self.left[over] == u:
            self.left[over] = x
        elif over is not None and self.right[over] == u:
            self.right[over] = x

    def turn(self, x):
        """Turn x, which isn't on top and above which nothing is still to be done in its tree."""
        self.looked += 1
        u = self.above[x]
        self.put_in_place(x, u)
        if self.left[u] == x:
            self.set_left(u, self.right[x])
            self.set_right(x, u)
        else:
            self.set_right(u, self.left[x])
            self.set_left(x, u)
        self.refresh(u)
        self.refresh(x)

    def next_turned(self, x, goal):
        """The names that are turned next for x to be lifted until it is below goal, or on top."""
        u = self.above[x]
        over = self.above[u]
        if self.is_top(u) or over == goal:
            return [x]
        if (self.left[u] == x) == (self.left[over] == u):
            return [u, x]
        return [x, x]

    def lift_up(self, x, goal=None):
        """Lift x to the top of its tree, or until it is straight below goal: the tuple of the names turned."""
        self.push_down_to(x)
        names = []
        while not self.is_top(x) and self.above[x] != goal:
            for y in self.next_turned(x, goal):
                self.turn(y)
                names.append(y)
        return tuple(names)

    def let_go(self, x):
        """Make what is behind x, a top, a tree of its own under it, if there is anything."""
        self.looked += 1
        self.right[x] = None
        self.refresh(x)

    def hang(self, x):
        """Make x, a top under a top that has nothing behind it, that one's right one."""
        u = self.above[x]
        self.right[u] = x
        self.refresh(u)

    def in_order(self, top):
        """The list of the names of a tree in their order."""
        names = []
        waiting = []
        x = top
        while x is not None or waiting:
            if x is None:
                x = waiting.pop()
                names.append(x)
                x = self.right[x]
            else:
                self.push(x)
                waiting.append(x)
                x = self.left[x]
        return names


def links_of(shape):
    """The trees that a shape tells of."""
    links = Links()
    links.take_rows(shape)
    return links
