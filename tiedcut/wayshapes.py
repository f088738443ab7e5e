"""What shapes of strands tell: their ties, the same with nothing turned, and what steps make of them."""

from tiedcut.forests import tie_of
from tiedcut.links import links_of
from tiedcut.marks import is_name
from tiedcut.ranks import rank


def ties_of_shape(shape):
    """The rising tuple of the ties that the strands of a shape have."""
    links = links_of(shape)
    ties = []
    for top in links.tops():
        names = links.in_order(top)
        ties.extend([tie_of(x, y) for x, y in zip(names, names[1:])])
        if links.above[top] is not None:
            ties.append(tie_of(names[0], links.above[top]))
    return tuple(sorted(ties))


def untwisted(shape):
    """The same shape with nothing turned."""
    links = links_of(shape)
    for top in links.tops():
        # To go along a strand is to exchange left and right wherever they are to be.
        links.in_order(top)
    return links.shape()


def stepped(shape, steps):
    """What comes of an untwisted shape by steps, of anything, or None where they can't be."""
    if not isinstance(steps, tuple):
        return None
    links = links_of(shape)
    for step in steps:
        if not is_step(links, step) or not can_step(links, step[0], step[1]):
            return None
        take_step(links, step[0], step[1])
    return links.shape()


def is_step(links, thing):
    """Whether thing, of anything, is a step by its form, of a name that is there."""
    if not isinstance(thing, tuple) or len(thing) != 2 or not isinstance(thing[0], str):
        return False
    return thing[0] in ("turn", "let", "hang") and is_name(thing[1]) and links.has_name(thing[1])


def can_step(links, word, x):
    """Whether the step can be, as the names are linked now."""
    if word == "turn":
        return not links.is_top(x)
    if word == "let":
        return links.is_top(x)
    return can_hang(links, x)


def can_hang(links, x):
    """Whether x is a top under a top that has nothing behind it."""
    u = links.above[x]
    return u is not None and links.is_top(x) and links.is_top(u) and links.right[u] is None


def take_step(links, word, x):
    """Take a step that can be."""
    if word == "turn":
        links.turn(x)
    elif word == "let":
        links.let_go(x)
    else:
        links.hang(x)


def ways_bound(n):
    """How many looks a row has at most in a Ways of n points, but for the credit that it takes."""
    return 8 * (36 * rank(n) + 5)
