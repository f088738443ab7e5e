"""Rows, and what they were told, as texts."""

from tiedcut.errors import NoText
from tiedcut.rows import is_deed, is_row
from tiedcut.wordtexts import read_words, show_words


def show_row(row):
    """The text of a row."""
    return show_words(row)


def read_row(text):
    """The row that a text, of anything, is of."""
    if not isinstance(text, str):
        raise NoText(0)
    row = read_words(text)
    if not is_row(row):
        raise NoText(0)
    return row


def show_told(row, told):
    """The text of what a row was told."""
    if told is None:
        return "done" if is_deed(row) else "none"
    if isinstance(told, bool):
        return show_truth(told)
    if row[0] in ("most", "top"):
        return show_words((told[0], "at", told[1]))
    return show_words(told if isinstance(told, tuple) else (told,))


def show_truth(truth):
    """The text of True or False."""
    return "yes" if truth else "no"
