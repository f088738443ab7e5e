"""Keepers run beside the plain forest, for the tests."""

import random

from tests.rowmakers import DEEDS, chance_row
from tiedcut.errors import TreeError
from tiedcut.plainrows import plain_do

# Deeds more often than others, so that forests change much; new ones seldom, so that they stay small.
DEED_WEIGHTS = {"tie": 6, "cut": 4, "add": 2, "spread": 2, "put": 2, "paint": 2}


def outcome(do, *things):
    """What is told, or the name of the refusal."""
    try:
        return ("told", do(*things))
    except TreeError as refusal:
        return ("refused", refusal.__class__.__name__)


def plain_outcome(forest, row):
    """(forest, outcome) of a row on the plain forest."""
    found = outcome(plain_do, forest, row)
    if found[0] == "refused":
        return forest, found
    return found[1][0], ("told", found[1][1])


def chance_pair(chance, forest):
    """Two points, often tied ones."""
    points, ties = forest
    if ties and chance.random() < 0.7:
        return chance.sample(chance.choice(ties), 2)
    return chance.randrange(len(points)), chance.randrange(len(points))


def fitting_row(chance, forest, words, slack=0):
    """A row of these words by chance, those of tied pairs often of such ones."""
    word = chance.choice([word for word in words for k in range(DEED_WEIGHTS.get(word, 1))])
    if word == "new" and len(forest[0]) >= 100:
        word = "put"
    row = chance_row(chance, len(forest[0]), slack if chance.random() < 0.1 else 0, (word,))
    if word in ("cut", "sum", "size", "top", "least", "spread") and row[2] is not None and chance.random() < 0.8:
        row = (word, *chance_pair(chance, forest), *row[3:])
    return row


def run_beside(test, keeper, forest, words, many, seed, slack=1):
    """Do so many rows by chance with a keeper and the plain forest, told alike: (ahead, row, forest) of each."""
    chance = random.Random(f"{seed} {len(forest[0])}")
    for k in range(many):
        row = fitting_row(chance, forest, words, slack)
        behind, expected = plain_outcome(forest, row)
        found = outcome(keeper.do, row)
        test.assertEqual(repr(found), repr(expected), (forest, row))
        yield forest, row, behind
        forest = behind


def asks_of(words):
    return tuple(word for word in words if word not in DEEDS)
