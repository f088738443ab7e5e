"""Marks, and the names that stand in trees: whole numbers or marks."""

from tiedcut.wholes import is_whole


def is_mark(thing):
    """Whether thing, of anything, is a mark: of a point, or over a tie from one point to another."""
    if not isinstance(thing, tuple) or len(thing) == 0 or not isinstance(thing[0], str):
        return False
    if not all(is_whole(number) and number >= 0 for number in thing[1:]):
        return False
    return (thing[0], len(thing)) in (("point", 2), ("over", 3))


def is_name(thing):
    """Whether thing, of anything, can be a name in a tree."""
    return is_whole(thing) or is_mark(thing)
