"""Whole numbers, and tuples of them, known among anything."""


def is_whole(thing):
    """Whether thing, of anything, is a whole number: Python's truths are ints, too, but none of these."""
    return isinstance(thing, int) and not isinstance(thing, bool)


def are_wholes(thing):
    """Whether thing, of anything, is a tuple of whole numbers."""
    return isinstance(thing, tuple) and all(is_whole(part) for part in thing)


def is_rising(row):
    """Whether each one in a tuple or list is more than the one ahead of it."""
    return all(low < high for low, high in zip(row, row[1:]))
