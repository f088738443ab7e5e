"""The forms of rows, written down for the tests, and rows made by them."""

import itertools

LARGE = 10 ** 30 - 1

# What may stand behind each word: a whole number (a, b, c, p, worth, x), such a one or None (q), a place (k), a kind.
FORMS = {
    "new": ("whole", "kind"), "put": ("whole", "whole"), "paint": ("whole", "kind"), "tie": ("whole", "whole"),
    "cut": ("whole", "whole"), "add": ("whole", "whole", "whole"), "spread": ("whole", "maybe", "whole"),
    "joined": ("whole", "whole"), "way": ("whole", "whole"), "total": ("whole", "whole"), "many": ("whole", "whole"),
    "most": ("whole", "whole"), "first": ("whole", "whole", "kind"), "reach": ("whole", "whole", "whole"),
    "kth": ("whole", "whole", "place"), "meet": ("whole", "whole", "whole"), "sum": ("whole", "maybe"),
    "size": ("whole", "maybe"), "top": ("whole", "maybe"), "least": ("whole", "maybe", "kind")}

DEEDS = ("new", "put", "paint", "tie", "cut", "add", "spread")

# Which places of a row have points' numbers.
POINTS_AT = {**{word: (1, 2) for word in FORMS}, "new": (), "put": (1,), "paint": (1,), "meet": (1, 2, 3)}

RIGHT = {
    "whole": (0, 1, 5, -1, -7, 100, LARGE, -LARGE),
    "maybe": (None, 0, 1, 5, -1, -7, 100, LARGE, -LARGE),
    "place": (0, 1, 5, 100, LARGE),
    "kind": tuple("abcdefgh")}


def right_row(word):
    return (word, *(RIGHT[form][1] for form in FORMS[word]))


def with_part(row, at, part):
    return row[:at] + (part,) + row[at + 1:]


def rows_of(many):
    """Each row on so many points, with few worths, kinds and places."""
    choices = {"whole": (-1, 0, 2), "place": range(many + 2), "kind": "adg"}
    for word, forms in FORMS.items():
        parts = []
        for at, form in enumerate(forms, 1):
            if at in POINTS_AT[word]:
                parts.append((None, *range(many)) if form == "maybe" else range(many))
            else:
                parts.append(choices[form])
        for row in itertools.product(*parts):
            yield (word, *row)


def chance_row(chance, many, slack=0, words=tuple(FORMS)):
    """A row by chance; its points are those that are there, or up to slack beyond them on each side."""
    word = chance.choice(words)
    parts = []
    for at, form in enumerate(FORMS[word], 1):
        if at in POINTS_AT[word]:
            number = chance.randint(-slack, many - 1 + slack)
            parts.append(None if form == "maybe" and chance.random() < 0.3 else number)
        else:
            parts.append(chance.choice("abcd") if form == "kind" else chance.randint(0 if form == "place" else -3, 6))
    return (word, *parts)
