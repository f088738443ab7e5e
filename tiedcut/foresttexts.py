"""Forests as texts."""

from tiedcut.errors import NoText
from tiedcut.forests import are_ties, is_point
from tiedcut.wordtexts import read_words, show_words


def show_forest(forest):
    """The text of a forest: its rows, parted by line feeds."""
    return "\n".join(forest_rows(forest))


def forest_rows(forest):
    """The list of the texts of a forest's rows: its points, then its ties."""
    points, ties = forest
    return [show_words(("point", *point)) for point in points] + [show_words(("tie", *tie)) for tie in ties]


def read_forest(text):
    """The forest that a text, of anything, is of."""
    if not isinstance(text, str):
        raise NoText(0)
    return forest_of_rows(text.split("\n"))


def forest_of_rows(rows):
    """The forest whose rows these texts are, refused by the number of the first one that may not stand there."""
    points = []
    ties = []
    for number, row in enumerate(rows):
        word, *parts = read_words(row)
        part = tuple(parts)
        if word == "point" and is_point(part) and len(ties) == 0:
            points.append(part)
        elif word == "tie" and are_ties((*ties, part), len(points)):
            ties.append(part)
        else:
            raise NoText(number)
    return (tuple(points), tuple(ties))
