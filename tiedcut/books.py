"""Books: what both keepers of a forest have, shown to be just that forest."""

from tiedcut.roundmarks import is_round, ties_of_round
from tiedcut.shapes import is_shape
from tiedcut.wayshapes import ties_of_shape
from tiedcut.wholes import is_rising


def shows_book(forest, thing):
    """Whether thing, of anything, is a book of the forest: a shape of its strands, and a round of each part."""
    if not isinstance(thing, tuple) or len(thing) != 2:
        return False
    shape, rounds = thing
    return is_forest_shape(forest, shape) and are_forest_rounds(forest, rounds)


def is_forest_shape(forest, thing):
    """Whether thing, of anything, is a shape whose names are just the forest's points, its ties the forest's."""
    points, ties = forest
    if not is_shape(thing) or [row[0] for row in thing] != list(range(len(points))):
        return False
    return ties_of_shape(thing) == ties


def are_forest_rounds(forest, thing):
    """Whether thing, of anything, is rounds, by rising least points, that have just the forest's points and ties."""
    if not isinstance(thing, tuple) or not all(is_round(marks) for marks in thing):
        return False
    points, ties = forest
    if sorted([p for marks in thing for p in points_of_round(marks)]) != list(range(len(points))):
        return False
    if sorted([tie for marks in thing for tie in ties_of_round(marks)]) != list(ties):
        return False
    begun = [marks[0][1] for marks in thing]
    return is_rising(begun) and begun == [min(points_of_round(marks)) for marks in thing]


def points_of_round(marks):
    """The list of a round's points, in the order of their marks."""
    return [mark[1] for mark in marks if mark[0] == "point"]
