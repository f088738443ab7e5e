"""Papers that show of two points whether they are joined."""

from tiedcut.forests import are_tied
from tiedcut.walking import part_of, way_of
from tiedcut.wholes import are_wholes, is_rising


def tied_paper(forest, a, b):
    """A paper of a and b: the way between them, or a's part, which b isn't in."""
    way = way_of(forest, a, b)
    if way is None:
        return ("apart", part_of(forest, a))
    return ("way", way)


def shows_tied(forest, a, b, thing):
    """Whether thing, of anything, is a paper of a and b: looked at tie by tie, with nothing searched for."""
    if not is_worded(thing):
        return False
    word, numbers = thing
    if word == "way":
        return is_way(forest, a, b, numbers)
    return word == "apart" and sets_apart(forest, a, b, numbers)


def is_worded(thing):
    """Whether thing, of anything, is a pair of a text and a tuple of whole numbers."""
    return isinstance(thing, tuple) and len(thing) == 2 and isinstance(thing[0], str) and are_wholes(thing[1])


def is_way(forest, a, b, numbers):
    """Whether a tuple of whole numbers is the way from a to b."""
    if len(numbers) == 0 or numbers[0] != a or numbers[-1] != b:
        return False
    if len(set(numbers)) != len(numbers):
        return False
    return all(are_tied(forest, here, there) for here, there in zip(numbers, numbers[1:]))


def sets_apart(forest, a, b, numbers):
    """Whether a tuple of whole numbers is rising points, a among them, b not, that no tie leads out of."""
    points, ties = forest
    if not is_rising(numbers) or a not in numbers or b in numbers:
        return False
    if numbers[0] < 0 or numbers[-1] >= len(points):
        return False
    return all((low in numbers) == (high in numbers) for low, high in ties)
