"""Rows: their forms, which of them are deeds, and the names of what they are refused with."""

from tiedcut.errors import Apart, NoDeed, NoForest, NoLine, NoPlace, NoPoint, NoRow, NoText, NoTie, Ring
from tiedcut.forests import is_kind
from tiedcut.wholes import is_whole

DEED_WORDS = ("new", "put", "paint", "tie", "cut", "add", "spread")

# What stands behind each word: "point" a point's number, "other" such a one or None, "number" any
# whole number, "place" one from 0, "kind" a kind.
FORMS = {
    "new": ("number", "kind"),
    "put": ("point", "number"),
    "paint": ("point", "kind"),
    "tie": ("point", "point"),
    "cut": ("point", "point"),
    "add": ("point", "point", "number"),
    "spread": ("point", "other", "number"),
    "joined": ("point", "point"),
    "way": ("point", "point"),
    "total": ("point", "point"),
    "many": ("point", "point"),
    "most": ("point", "point"),
    "first": ("point", "point", "kind"),
    "reach": ("point", "point", "number"),
    "kth": ("point", "point", "place"),
    "meet": ("point", "point", "point"),
    "sum": ("point", "other"),
    "size": ("point", "other"),
    "top": ("point", "other"),
    "least": ("point", "other", "kind"),
}


def is_row(thing):
    """Whether thing, of anything, is a row by its form, whatever points there are."""
    if not isinstance(thing, tuple) or len(thing) == 0 or not isinstance(thing[0], str):
        return False
    if thing[0] not in FORMS:
        return False
    form = FORMS[thing[0]]
    parts = thing[1:]
    return len(parts) == len(form) and all(fits(part, wanted) for part, wanted in zip(parts, form))


def fits(part, wanted):
    """Whether part, of anything, is what the form wants in its place."""
    if wanted == "kind":
        return is_kind(part)
    if wanted == "other" and part is None:
        return True
    if wanted == "place":
        return is_whole(part) and part >= 0
    return is_whole(part)


def is_deed(row):
    """Whether a row is a deed; else it is an ask."""
    return row[0] in DEED_WORDS


def points_named(row):
    """The list of the points' numbers that stand in a row."""
    named = [part for part, wanted in zip(row[1:], FORMS[row[0]]) if wanted in ("point", "other")]
    return [number for number in named if number is not None]


def refuse_unfit(row, many):
    """Refuse what is refused first of all, of anything as row, where there are so many points."""
    if not is_row(row):
        raise NoRow()
    refuse_missing(points_named(row), many)


def refuse_missing(numbers, many):
    """Refuse whole numbers of which one is no point's, where there are so many points."""
    if not all(0 <= number < many for number in numbers):
        raise NoPoint()


def refuse_undone(row, words, many):
    """The same for a keeper that does only rows of these words: others are refused by their word alone."""
    if is_row(row) and row[0] not in words:
        raise NoRow()
    refuse_unfit(row, many)


def plain_word(error):
    """The name of a refusal's class."""
    if isinstance(error, NoRow):
        return "NoRow"
    if isinstance(error, NoPoint):
        return "NoPoint"
    if isinstance(error, Ring):
        return "Ring"
    if isinstance(error, NoTie):
        return "NoTie"
    if isinstance(error, Apart):
        return "Apart"
    if isinstance(error, NoPlace):
        return "NoPlace"
    if isinstance(error, NoDeed):
        return "NoDeed"
    if isinstance(error, NoForest):
        return "NoForest"
    if isinstance(error, NoLine):
        return "NoLine"
    if isinstance(error, NoText):
        return "NoText"
    return "TreeError"
