"""A desk that a forest is begun at by a line of text, and that answers such lines."""

from tiedcut.books import shows_book
from tiedcut.errors import NoForest, NoLine
from tiedcut.foresttexts import forest_of_rows, forest_rows
from tiedcut.plainrows import plain_rows
from tiedcut.rows import is_row, refuse_missing
from tiedcut.rowtexts import show_row, show_told, show_truth
from tiedcut.tiedpapers import tied_paper
from tiedcut.twin import Twin
from tiedcut.wholes import are_wholes
from tiedcut.wordtexts import read_words, show_words


def rows_in_line(forest):
    """A forest's rows in one line."""
    return " / ".join(forest_rows(forest))


def say_back(twin, numbers):
    """Undo the last deed: its text."""
    return show_row(twin.back())


def say_rows(twin, numbers):
    """The rows of the forest as it is."""
    return rows_in_line(twin.forest())


def say_paper(twin, numbers):
    """A paper of two points."""
    forest = twin.forest()
    refuse_missing(numbers, len(forest[0]))
    word, points = tied_paper(forest, numbers[0], numbers[1])
    return show_words((word, *points))


def say_round(twin, numbers):
    """A round of a point's part."""
    return " ".join([show_mark(mark) for mark in twin.rounds.round(numbers[0])])


def show_mark(mark):
    """The text of a mark."""
    return f"{mark[1]}" if mark[0] == "point" else f"{mark[1]}>{mark[2]}"


def say_check(twin, numbers):
    """Whether the book shows the plain forest that all deeds that aren't undone come to."""
    forest = plain_rows(twin.at(0), twin.done())[0]
    return show_truth(shows_book(forest, twin.book()))


def say_at(twin, numbers):
    """The rows of the forest behind the first so many deeds."""
    return rows_in_line(twin.at(numbers[0]))


SAYINGS = {
    "back": say_back,
    "rows": say_rows,
    "paper": say_paper,
    "round": say_round,
    "check": say_check,
    "at": say_at,
}

# Each word, and how many words its line has: those behind the first one are numbers.
SAYING_FORMS = (("back", 1), ("rows", 1), ("paper", 3), ("round", 2), ("check", 1), ("at", 2))


def is_saying(words):
    """Whether a line's words are, by their form, those of a line that is neither a forest's nor a row's."""
    return (words[0], len(words)) in SAYING_FORMS and are_wholes(words[1:])


class Desk:
    """A twin of the forest that was begun last, None ahead of any."""

    def __init__(self):
        self.twin = None

    def say(self, line):
        """The answer to a line, of anything."""
        if not isinstance(line, str):
            raise NoLine()
        if line.startswith("forest "):
            self.twin = Twin(forest_of_rows(line.removeprefix("forest ").split(" / ")))
            return "done"
        words = read_words(line)
        if not is_row(words) and not is_saying(words):
            raise NoLine()
        if self.twin is None:
            raise NoForest()
        if is_row(words):
            return show_told(words, self.twin.do(words))
        action = SAYINGS[words[0]]
        return action(self.twin, words[1:])
