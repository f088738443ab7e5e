"""Shapes: what trees look like, how much hangs on each name, and whether turns lead from one to another."""

from tiedcut.links import links_of
from tiedcut.marks import is_mark, is_name
from tiedcut.ranks import rank
from tiedcut.wholes import is_rising, is_whole


def is_shape(thing):
    """Whether thing, of anything, is a shape."""
    if not isinstance(thing, tuple) or not all(is_shape_row(row) for row in thing):
        return False
    names = [row[0] for row in thing]
    if not all(is_whole(name) for name in names) and not all(is_mark(name) for name in names):
        return False
    return is_rising(names) and are_linked(thing)


def is_shape_row(thing):
    """Whether thing, of anything, is a row of a shape by its form."""
    if not isinstance(thing, tuple) or len(thing) != 5:
        return False
    name, left, right, above, turned = thing
    if not is_name(name) or not isinstance(turned, bool):
        return False
    return all(other is None or is_name(other) for other in (left, right, above))


def are_linked(rows):
    """Whether rows of a shape by their form, of rising names, link these as a shape does."""
    above = {row[0]: row[3] for row in rows}
    for name, left, right, over, turned in rows:
        if left is not None and left == right:
            return False
        if over is not None and over not in above:
            return False
        if not all(child is None or is_below(above, child, name) for child in (left, right)):
            return False
    return not has_ring_above(above)


def is_below(above, child, name):
    """Whether a child is the name of a row and has that name above it."""
    return child in above and above[child] == name


def has_ring_above(above):
    """Whether some name is above itself, near or far."""
    begun = {}
    for start in above:
        name = start
        while name is not None and name not in begun:
            begun[name] = start
            name = above[name]
        # What an earlier walk came to leads to an end; what this one came to already leads round.
        if name is not None and begun[name] == start:
            return True
    return False


def weights(shape):
    """A dict: for each name how many names have it above them, near or far, and itself."""
    above = {row[0]: row[3] for row in shape}
    found = {name: 0 for name in above}
    for start in above:
        name = start
        while name is not None:
            found[name] += 1
            name = above[name]
    return found


def credit_of(shape):
    """The sum of the ranks of all weights."""
    return sum([rank(weight) for weight in weights(shape).values()])


def shows_turned(ahead, names, behind):
    """Whether names, of anything, is a tuple of names that turned one by one lead from one shape to another."""
    if not isinstance(names, tuple):
        return False
    links = links_of(ahead)
    for name in names:
        if not is_name(name) or not links.has_name(name) or links.is_top(name):
            return False
        links.turn(name)
    return links.shape() == behind
