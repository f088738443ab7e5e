"""Points [2], [3] (h) and [25]: show_forest and read_forest."""

import copy
import random
import unittest

from tests.makers import FORK, fixed, great_forests, grown, middling_forests, odd_things, small_forests, star, straight
from tests.rowmakers import LARGE
from tests.textbrute import NUMBERS_OTHERWISE, otherwise, refused_line, wrong_line
from tiedcut.foresttexts import read_forest, show_forest

TEXT = "point 3 a\npoint -10 b\npoint 0 h\npoint 7 c\ntie 0 1\ntie 0 3\ntie 1 2"
ROWS = TEXT.split("\n")
FOREST = (((3, "a"), (-10, "b"), (0, "h"), (7, "c")), ((0, 1), (0, 3), (1, 2)))


def all_sorts():
    worths = (((LARGE, "a"), (-LARGE, "b"), (0, "c"), (-1, "d"), (10, "e")), ((0, 4), (1, 3), (1, 4)))
    return [worths, *small_forests(4), FORK, *middling_forests(), *great_forests()]


class Written(unittest.TestCase):

    def test_named_ones(self):
        self.assertEqual(show_forest(FOREST), TEXT)
        self.assertEqual(show_forest((((5, "a"),), ())), "point 5 a")
        self.assertEqual(show_forest((((0, "a"), (-1, "b")), ())), "point 0 a\npoint -1 b")
        self.assertEqual(show_forest((((LARGE, "g"), (-LARGE, "h")), ((0, 1),))), f"point {'9' * 30} g\npoint -{'9' * 30} h\ntie 0 1")

    def test_rows_in_order(self):
        for forest in all_sorts():
            points, ties = forest
            rows = [" ".join(["point", str(worth), kind]) for worth, kind in points] + [" ".join(["tie", str(a), str(b)]) for a, b in ties]
            self.assertEqual(show_forest(forest), "\n".join(rows))

    def test_nothing_is_changed(self):
        forest = copy.deepcopy(FOREST)
        show_forest(forest)
        self.assertEqual(forest, FOREST)


class Read(unittest.TestCase):

    def check(self, text):
        """What a text is read as, by patterns and by the words of the document."""
        line = wrong_line(text.split("\n"))
        found = refused_line(read_forest, text)
        if line is None:
            self.assertEqual(found[0], "told", repr(text))
            self.assertEqual(show_forest(found[1]), text)
        else:
            self.assertEqual(found, ("line", line), repr(text))

    def wrong(self, rows, line):
        self.assertEqual(repr(refused_line(read_forest, "\n".join(rows))), repr(("line", line)), rows)

    def test_named_one(self):
        self.assertEqual(repr(read_forest(TEXT)), repr(FOREST))

    def test_as_it_was_written(self):
        for forest in all_sorts():
            self.assertEqual(repr(read_forest(show_forest(forest))), repr(forest))
            self.check(show_forest(forest))

    def test_numbers_otherwise(self):
        for at, row in enumerate(ROWS):
            words = row.split(" ")
            for place in (1, 2) if words[0] == "tie" else (1,):
                for number in [number for number in NUMBERS_OTHERWISE if "\n" not in number]:
                    self.wrong([*ROWS[:at], " ".join([*words[:place], number, *words[place + 1:]]), *ROWS[at + 1:]], at)

    def test_kinds_otherwise(self):
        for kind in ("i", "A", "z", "aa", "", "0", "-", " a", "a ", "\u0430", "\u00e4", "a\t", "'a'"):
            self.wrong([ROWS[0], f"point 5 {kind}", *ROWS[2:]], 1)

    def test_blanks_and_words_otherwise(self):
        for at, row in enumerate(ROWS):
            others = [" " + row, row + " ", row.replace(" ", "  ", 1), row.replace(" ", "\t"), row.replace(" ", ""), "", " ", row + " 0", row + " a", row.upper()]
            others += [row.replace("point", "Point").replace("tie", "Tie"), row.replace("point", "pint").replace("tie", "ties"), row[:-1], row[1:]]
            others += ["forest", "point", "tie", "cut 0 1", "new 5 a", "point a 5", "tie 0", "tie 0 1 2", row + "\r", "\ufeff" + row, row + "\x0b", "# " + row]
            others += [row + " / " + row, "tie - 1", "tie 0 -", "point - a", "point 5 -"]
            for other in others:
                self.wrong([*ROWS[:at], other, *ROWS[at + 1:]], at)

    def test_an_empty_row(self):
        for at in range(len(ROWS) + 1):
            self.wrong([*ROWS[:at], "", *ROWS[at:]], at)

    def test_ties_that_do_not_rise(self):
        for ties, line in ((("tie 0 3", "tie 0 1"), 5), (("tie 1 2", "tie 0 1"), 5), (("tie 0 1", "tie 0 1"), 5), (("tie 1 0",), 4), (("tie 2 2",), 4),
                           (("tie 0 1", "tie 1 0"), 5), (("tie 0 1", "tie 3 2"), 5), (("tie 0 3", "tie 0 2", "tie 0 1"), 5)):
            self.wrong([*ROWS[:4], *ties], line)
            self.wrong([*ROWS[:4], *ties, "nothing"], line)

    def test_ties_that_close_a_ring(self):
        for ties, line in ((("tie 0 1", "tie 0 2", "tie 1 2"), 6), (("tie 0 1", "tie 1 2", "tie 1 3", "tie 2 3"), 7), (("tie 0 1", "tie 0 3", "tie 1 2", "tie 2 3"), 7)):
            self.wrong([*ROWS[:4], *ties], line)

    def test_points_that_are_not_there_by_then(self):
        for tie in ("tie 0 4", "tie 4 5", "tie -1 0", "tie -2 -1", "tie 3 4", f"tie 0 {LARGE}"):
            self.wrong([*ROWS[:4], tie], 4)
        self.wrong(["tie 0 1", "point 1 a", "point 1 a"], 0)
        self.wrong(["point 1 a", "tie 0 1", "point 1 a"], 1)
        self.wrong(["tie 0 1"], 0)

    def test_a_point_behind_a_tie(self):
        self.wrong([*ROWS, "point 5 a"], 7)
        self.wrong([*ROWS[:5], "point 5 a", *ROWS[5:]], 5)
        self.wrong(["point 1 a", "point 1 a", "tie 0 1", "point 1 a", "tie 1 0"], 3)

    def test_the_first_of_several(self):
        self.wrong(["point 1 a", "point 01 a", "tie 1 0", ""], 1)
        self.wrong([*ROWS[:5], "tie 0 9", "tie 0 0", "point"], 5)
        self.wrong(["", ""], 0)

    def test_no_row(self):
        for text in ("", "\n", "\n\n", " "):
            self.assertEqual(refused_line(read_forest, text), ("line", 0))

    def test_line_feeds_at_the_ends(self):
        self.wrong([*ROWS, ""], 7)
        self.wrong(["", *ROWS], 0)
        self.assertEqual(refused_line(read_forest, TEXT.replace("\n", "\r\n")), ("line", 0))
        self.assertEqual(refused_line(read_forest, TEXT.replace("\n", "\r")), ("line", 0))
        self.assertEqual(refused_line(read_forest, TEXT.replace("\n", " / ")), ("line", 0))
        self.assertEqual(refused_line(read_forest, TEXT.replace("\n", "\u2028")), ("line", 0))

    def test_one_sign_otherwise(self):
        chance = random.Random(1)
        for forest in [FOREST, straight(1), straight(2), straight(5), star(5), grown(6, 1), (FOREST[0], ()), FORK]:
            for text in otherwise(show_forest(forest), chance, 400):
                self.check(text)

    def test_rows_otherwise(self):
        chance = random.Random(2)
        for k in range(400):
            rows = show_forest(grown(chance.randint(2, 6), k, 0.2)).split("\n")
            act = chance.randrange(3)
            at, other = chance.randrange(len(rows)), chance.randrange(len(rows))
            if act == 0:
                rows[at], rows[other] = rows[other], rows[at]
            elif act == 1:
                rows.insert(at, rows[other])
            else:
                rows[at] = f"tie {chance.randrange(6)} {chance.randrange(6)}"
            self.check("\n".join(rows))

    def test_things_of_any_kind(self):
        for thing in [*odd_things(), 0, 5, -1, TEXT.encode(), [TEXT], (TEXT,), ROWS, tuple(ROWS), FOREST]:
            self.assertEqual(repr(refused_line(read_forest, thing)), repr(("line", 0)))

    def test_long_texts(self):
        long = show_forest(grown(300, 5))
        self.assertEqual(show_forest(read_forest(long)), long)
        for text in ("x" * 8000, " " * 8000, "\n" * 8000, "point " * 1300, "9" * 8000, "point 1 a\n" * 799 + "x"):
            self.check(text)
        figures = "7" * 7000
        text = f"point {figures} a\npoint -{figures} b"
        self.assertEqual(show_forest(read_forest(text)), text)
        points = read_forest(text)[0]
        self.assertTrue(points[0][0] == -points[1][0] == 7 * (10 ** 7000 - 1) // 9)

    def test_nothing_is_changed(self):
        for thing in [*fixed(odd_things()), list(ROWS)]:
            kept = repr(thing)
            refused_line(read_forest, thing)
            self.assertEqual(repr(thing), kept)


if __name__ == "__main__":
    unittest.main()
