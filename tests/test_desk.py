"""Points [2], [3] (h) and [27]: the class Desk."""

import random
import re
import unittest

from tests.keeping import fitting_row, outcome, plain_outcome
from tests.makers import FORK, great_forests, grown, middling_forests, odd_things, small_forests, straight
from tests.rowmakers import DEEDS, FORMS, LARGE, POINTS_AT, right_row, rows_of, with_part
from tests.textbrute import NUMBER, NUMBERS_OTHERWISE, is_row_text, is_written, otherwise, refused_line, wrong_line
from tiedcut.desk import Desk
from tiedcut.foresttexts import show_forest
from tiedcut.roundmarks import is_round, ties_of_round
from tiedcut.rowtexts import show_row, show_told
from tiedcut.tiedpapers import shows_tied
from tiedcut.walking import part_of

WORDS = tuple(FORMS)

OTHER_LINES = ("back", "rows", "check", "paper 0 1", "round 0", "at 0", "paper -1 5", "round -7", "at -1", f"paper {LARGE} 0", f"round {LARGE}", f"at {LARGE}")

# Lines that look like others, but are none.
NO_LINES = ("", " ", "\n", "forest", "Forest point 1 a", "forests point 1 a", " forest point 1 a", "point 1 a", "point 1 a / point 2 b", "back 1", "back ", " back", "Back", "back\n",
            "\nback", "backs", "rows 0", "rows ", "row", "check ", "check 0", "check\n", "paper", "paper 0", "paper 0 1 2", "paper 0 -", "paper - 0", "paper  0 1",
            "paper 0  1", "paper 0 1 ", "paper 00 1", "paper 0 -0", "paper 0 +1", "paper a b", "paper 0,1", "paper\t0 1", "paper 0\n1", "round", "round ", "round -",
            "round 00", "round -0", "round 0 1", "round a", "round\n0", "at", "at ", "at -", "at 00", "at -0", "at 0 0", "at k", "at 1.0", "at \u0661", "round \uff10",
            "paper 0 \u00b9", "kth 0 0 -1", "kth 0 0 -", "kth 0 0", "tie 0", "tie 0 1 2", "tie 0 -", "new 1 z", "new 1", "sum 0", "spread 0 -", "tie\n0 1", "tie 0 1\n",
            "back / back", "rows / back", "tie 0 1 / tie 1 2", "forest/point 1 a", "forest\tpoint 1 a", "forest\npoint 1 a", "undo", "book", "done", "quit", "help", "NoLine")


def line_of(forest):
    """The line that begins a forest."""
    return "forest " + show_forest(forest).replace("\n", " / ")


def rows_of_forest(forest):
    return show_forest(forest).replace("\n", " / ")


def begun(forest):
    desk = Desk()
    assert desk.say(line_of(forest)) == "done"
    return desk


def is_line(text):
    """Whether a text is a line by its form that is none of a forest."""
    return is_row_text(text) or is_written(text, f"back|rows|check|paper {NUMBER} {NUMBER}|round {NUMBER}|at {NUMBER}")


def marks_of(text):
    """The marks that an answer to round tells."""
    return tuple(("over", *map(int, word.split(">"))) if ">" in word else ("point", int(word)) for word in text.split(" "))


class Saying(unittest.TestCase):

    def told(self, desk, line, answer):
        found = desk.say(line)
        self.assertIsInstance(found, str)
        self.assertEqual(found, answer, line)

    def refused(self, desk, line, word):
        self.assertEqual(outcome(desk.say, line), ("refused", word), repr(line))

    def check_same(self, desk, forest, deeds=None):
        """What is told is of this forest, and of these deeds."""
        self.told(desk, "rows", rows_of_forest(forest))
        self.told(desk, "check", "yes")
        if deeds is not None:
            self.told(desk, f"at {len(deeds)}", rows_of_forest(forest))
            self.refused(desk, f"at {len(deeds) + 1}", "NoPlace")


class Beginning(Saying):

    def test_no_forest_yet(self):
        desk = Desk()
        for turn in range(2):
            for line in (*OTHER_LINES, *(show_row(right_row(word)) for word in WORDS), "tie -1 -1", "sum 0 -", f"put {LARGE} 5"):
                self.refused(desk, line, "NoForest")
            for line in NO_LINES:
                self.refused(desk, line, "NoLine")
            for line in ("forest ", "forest point", "forest tie 0 1"):
                self.refused(desk, line, "NoText")
        self.told(desk, line_of(FORK), "done")
        self.check_same(desk, FORK, ())

    def test_forests_of_all_sorts(self):
        for forest in [*small_forests(4), *middling_forests(), *great_forests(), (((LARGE, "a"), (-LARGE, "h")), ())]:
            desk = Desk()
            self.told(desk, line_of(forest), "done")
            self.check_same(desk, forest, ())
            self.refused(desk, "back", "NoDeed")

    def test_begun_anew(self):
        desk = Desk()
        for forest in (FORK, straight(1), straight(4), FORK):
            self.told(desk, line_of(forest), "done")
            self.check_same(desk, forest, ())
            self.refused(desk, "back", "NoDeed")
            self.told(desk, "new 5 b", str(len(forest[0])))
            self.told(desk, "put 0 77", "done")
            self.refused(desk, "at 3", "NoPlace")

    def test_named_one(self):
        desk = Desk()
        self.told(desk, "forest point 5 a / point 2 b / point -7 a / point 1 c / tie 0 1 / tie 1 2", "done")
        for line, answer in (("total 0 2", "0"), ("tie 2 3", "done"), ("way 3 0", "3 2 1 0"), ("most 0 3", "5 at 0"), ("paper 0 3", "way 0 1 2 3"), ("check", "yes"),
                             ("rows", "point 5 a / point 2 b / point -7 a / point 1 c / tie 0 1 / tie 1 2 / tie 2 3"), ("back", "tie 2 3"), ("joined 0 3", "no"),
                             ("paper 0 3", "apart 0 1 2"), ("paper 3 0", "apart 3"), ("round 3", "3"), ("top 0 -", "5 at 0"), ("least 0 - h", "none"), ("new 8 d", "4"),
                             ("spread 1 0 3", "done"), ("at 0", "point 5 a / point 2 b / point -7 a / point 1 c / tie 0 1 / tie 1 2"),
                             ("at 2", "point 5 a / point 5 b / point -4 a / point 1 c / point 8 d / tie 0 1 / tie 1 2"), ("paper 1 1", "way 1"),
                             ("back", "spread 1 0 3"), ("back", "new 8 d"), ("spread 0 - -5", "done"), ("back", "spread 0 - -5"), ("joined 0 2", "yes")):
            self.told(desk, line, answer)

    def test_two_desks_have_nothing_in_common(self):
        one, other = begun(FORK), Desk()
        self.refused(other, "rows", "NoForest")
        other.say("forest point 1 a")
        one.say("put 0 99")
        self.check_same(other, (((1, "a"),), ()), ())


class ForestLines(Saying):

    def check(self, line):
        """A line that begins with 'forest ' is read as rows, or refused by the number of the first wrong one."""
        rows = line[len("forest "):].split(" / ")
        wrong = wrong_line(rows)
        expected = ("told", "done") if wrong is None else ("line", wrong)
        desk = begun(FORK)
        self.assertEqual(refused_line(desk.say, line), expected, repr(line))
        if wrong is None:
            self.told(desk, "rows", " / ".join(rows))
        else:
            self.check_same(desk, FORK, ())

    def test_rows_otherwise(self):
        right = ["point 3 a", "point -10 b", "point 0 h", "tie 0 1", "tie 0 2"]
        self.check("forest " + " / ".join(right))
        for at in range(len(right)):
            for row in ("", " ", "tie 1 2", "tie 0 1", "tie 1 0", "tie 0 9", "tie -1 0", "point 1 a", "point 01 a", "point -0 a", "point +1 a", "point 1 i", "point  1 a",
                        " point 1 a", "point 1 a ", "forest", "cut 0 1", "point \u0661 a", "point 1 a\n", "\npoint 1 a", "point\n1 a", "/", "point 1 a /", "rows", "-"):
                self.check("forest " + " / ".join([*right[:at], row, *right[at:]]))
                self.check("forest " + " / ".join([*right[:at], row, *right[at + 1:]]))

    def test_line_feeds_part_no_rows(self):
        for line, wrong in (("forest point 1 a\npoint 2 b", 0), ("forest point 1 a / point 2 b\ntie 0 1", 1), ("forest point 1 a\n/ point 2 b", 0),
                            ("forest point 1 a / point 2 b\n", 1), ("forest \npoint 1 a", 0), ("forest point 1 a /\npoint 2 b", 0), ("forest point 1 a\n / point 2 b", 0)):
            self.assertEqual(refused_line(Desk().say, line), ("line", wrong), repr(line))
            self.check(line)

    def test_slashes_otherwise(self):
        for line in ("forest point 1 a/point 2 b", "forest point 1 a /point 2 b", "forest point 1 a/ point 2 b", "forest point 1 a  / point 2 b", "forest point 1 a /  point 2 b",
                     "forest point 1 a / / point 2 b", "forest point 1 a // point 2 b", "forest / point 1 a", "forest  / point 1 a", "forest point 1 a / ", "forest point 1 a /", "forest ", "forest  ",
                     "forest /", "forest  point 1 a", "forest forest point 1 a", "forest \t"):
            self.check(line)

    def test_one_sign_otherwise(self):
        chance = random.Random(5)
        for forest in (straight(1), straight(3), grown(5, 1)):
            for text in otherwise(rows_of_forest(forest), chance, 300):
                self.check("forest " + text)

    def test_a_refused_one_leaves_what_was_there(self):
        desk = begun(FORK)
        deeds = ("put 0 50", "tie 5 7", "cut 0 2")
        for line in deeds:
            desk.say(line)
        rows = desk.say("rows")
        for line in ("forest ", "forest x", "forest point 1 a / tie 0 1", "forest point 1 a / ", "forest point 1 a\npoint 1 b"):
            self.refused(desk, line, "NoText")
            self.told(desk, "rows", rows)
            self.told(desk, "check", "yes")
            self.told(desk, "at 0", rows_of_forest(FORK))
            self.told(desk, "at 3", rows)
        for line in deeds[::-1]:
            self.told(desk, "back", line)
        self.check_same(desk, FORK, ())


class Rows(Saying):

    def check_row(self, desk, forest, row):
        """A row's text is answered as the plain forest tells or refuses it: the forest behind it."""
        behind, (kind, told) = plain_outcome(forest, row)
        expected = ("told", show_told(row, told)) if kind == "told" else (kind, told)
        self.assertEqual(outcome(desk.say, show_row(row)), expected, (forest, row))
        return behind

    def test_each_row_on_little_forests(self):
        for forest in [forest for many in (1, 2, 3) for forest in small_forests(many)]:
            desk = begun(forest)
            for row in rows_of(len(forest[0])):
                behind = self.check_row(desk, forest, row)
                if behind != forest or row[0] in DEEDS and outcome(desk.say, "at 1")[0] == "told":
                    self.told(desk, "rows", rows_of_forest(behind))
                    self.told(desk, "back", show_row(row))
            self.check_same(desk, forest, ())

    def test_rows_on_all_sorts(self):
        for number, forest in enumerate([*middling_forests(), *great_forests()[::3]]):
            chance = random.Random(number)
            desk = begun(forest)
            for k in range(150):
                forest = self.check_row(desk, forest, fitting_row(chance, forest, WORDS, 2))
                if k % 30 == 0:
                    self.check_same(desk, forest)
            self.check_same(desk, forest)

    def test_points_that_are_not_there(self):
        desk = begun(FORK)
        for word in WORDS:
            for at in POINTS_AT[word]:
                for number in (9, -1, -9, LARGE, -LARGE):
                    self.refused(desk, show_row(with_part(right_row(word), at, number)), "NoPoint")
        self.check_same(desk, FORK, ())

    def test_each_refusal(self):
        desk = begun(FORK)
        for line, word in (("tie 0 5", "Ring"), ("tie 7 7", "Ring"), ("cut 0 5", "NoTie"), ("cut 3 3", "NoTie"), ("add 0 7 1", "Apart"), ("spread 0 5 1", "NoTie"), ("way 0 7", "Apart"),
                           ("kth 0 5 4", "NoPlace"), ("kth 0 7 0", "Apart"), ("meet 0 5 7", "Apart"), ("top 0 1", "NoTie"), ("put 9 1", "NoPoint"), ("back", "NoDeed")):
            self.refused(desk, line, word)
            self.check_same(desk, FORK, ())


class Others(Saying):

    def test_back_and_at(self):
        for number, forest in enumerate([FORK, straight(1), *middling_forests()[::3]]):
            chance = random.Random(number)
            desk = begun(forest)
            forests, deeds = [forest], []
            for k in range(120):
                if chance.random() < 0.3:
                    if deeds:
                        self.told(desk, "back", show_row(deeds.pop()))
                        forests.pop()
                    else:
                        self.refused(desk, "back", "NoDeed")
                else:
                    row = fitting_row(chance, forests[-1], DEEDS, 1)
                    behind, expected = plain_outcome(forests[-1], row)
                    outcome(desk.say, show_row(row))
                    if expected[0] == "told":
                        forests.append(behind)
                        deeds.append(row)
                if k % 20 == 0:
                    self.check_same(desk, forests[-1], deeds)
            for at, past in enumerate(forests):
                self.told(desk, f"at {at}", rows_of_forest(past))
            while deeds:
                self.told(desk, "back", show_row(deeds.pop()))
                forests.pop()
                self.check_same(desk, forests[-1], deeds)
            self.refused(desk, "back", "NoDeed")

    def test_no_place(self):
        desk = begun(FORK)
        for line in ("at -1", "at 1", "at 2", f"at {LARGE}", f"at -{LARGE}", "at 100"):
            self.refused(desk, line, "NoPlace")
        desk.say("put 0 1")
        self.told(desk, "at 0", rows_of_forest(FORK))
        self.refused(desk, "at 2", "NoPlace")
        self.refused(desk, "at -1", "NoPlace")

    def check_paper(self, desk, forest, a, b):
        word, *points = desk.say(f"paper {a} {b}").split(" ")
        self.assertIs(shows_tied(forest, a, b, (word, tuple(int(p) for p in points))), True)
        self.assertEqual(" ".join([word, *(str(int(p)) for p in points)]), desk.say(f"paper {a} {b}"))

    def check_round(self, desk, forest, p):
        marks = marks_of(desk.say(f"round {p}"))
        self.assertIs(is_round(marks), True)
        self.assertEqual(marks[0], ("point", p))
        part = part_of(forest, p)
        self.assertEqual(tuple(sorted(mark[1] for mark in marks if mark[0] == "point")), part)
        self.assertEqual(ties_of_round(marks), tuple(tie for tie in forest[1] if tie[0] in part))

    def test_papers_and_rounds(self):
        for number, forest in enumerate([*small_forests(3), FORK, *middling_forests()]):
            chance = random.Random(number)
            desk = begun(forest)
            for k in range(30):
                row = fitting_row(chance, forest, WORDS)
                forest = plain_outcome(forest, row)[0]
                outcome(desk.say, show_row(row))
                many = len(forest[0])
                for turn in range(3):
                    self.check_paper(desk, forest, chance.randrange(many), chance.randrange(many))
                    self.check_round(desk, forest, chance.randrange(many))
            self.check_same(desk, forest)

    def test_answers_by_their_signs(self):
        desk = begun(grown(12, 3))
        self.assertTrue(re.fullmatch(r"way( [0-9]+)+", desk.say("paper 0 11")))
        self.assertTrue(re.fullmatch(r"0( [0-9]+(>[0-9]+)?)+", desk.say("round 0")))
        desk = begun((((1, "a"), (2, "b"), (3, "c")), ((0, 2),)))
        self.told(desk, "round 0", "0 0>2 2 2>0")
        self.told(desk, "round 2", "2 2>0 0 0>2")
        self.told(desk, "round 1", "1")
        self.told(desk, "paper 0 2", "way 0 2")
        self.told(desk, "paper 2 0", "way 2 0")
        self.told(desk, "paper 1 0", "apart 1")

    def test_no_point(self):
        desk = begun(FORK)
        for number in (9, -1, -9, LARGE, -LARGE):
            for line in (f"paper {number} 0", f"paper 0 {number}", f"paper {number} {number}", f"round {number}"):
                self.refused(desk, line, "NoPoint")
        desk.say("new 1 a")
        self.told(desk, "paper 9 9", "way 9")
        self.told(desk, "round 9", "9")
        desk.say("back")
        self.refused(desk, "round 9", "NoPoint")
        self.refused(desk, "paper 9 9", "NoPoint")
        self.check_same(desk, FORK, ())

    def test_check_is_asked_of_the_book(self):
        """A desk whose keepers were led astray answers no."""
        desk = begun(FORK)
        desk.say("put 0 4")
        self.told(desk, "check", "yes")
        desk.twin.ways.do(("cut", 0, 2))
        self.told(desk, "check", "no")
        desk.twin.ways.do(("tie", 0, 2))
        self.told(desk, "check", "yes")
        desk.twin.rounds.do(("cut", 0, 2))
        self.told(desk, "check", "no")

    def test_asks_are_no_deeds(self):
        desk = begun(FORK)
        for line in ("rows", "check", "paper 0 5", "round 3", "at 0", "way 0 5", "top 0 -", "joined 0 7"):
            desk.say(line)
            self.refused(desk, "back", "NoDeed")
            self.refused(desk, "at 1", "NoPlace")
            self.check_same(desk, FORK, ())


class NoLines(Saying):

    def test_by_their_form(self):
        desk = begun(FORK)
        for line in NO_LINES:
            self.refused(desk, line, "NoLine")
        for number in NUMBERS_OTHERWISE:
            for line in (f"paper {number} 0", f"paper 0 {number}", f"round {number}", f"at {number}", f"tie {number} 0", f"put 0 {number}", f"kth 0 0 {number}"):
                self.refused(desk, line, "NoLine")
                self.refused(Desk(), line, "NoLine")
        self.check_same(desk, FORK, ())

    def test_one_sign_otherwise(self):
        chance = random.Random(6)
        lines = [*OTHER_LINES, *(show_row(right_row(word)) for word in WORDS), "sum 0 -", "back"]
        for line in lines:
            for text in otherwise(line, chance, 120):
                if not text.startswith("forest "):
                    self.refused(Desk(), text, "NoForest" if is_line(text) else "NoLine")

    def test_never_no_row(self):
        desk = begun(FORK)
        chance = random.Random(7)
        for word in WORDS:
            for text in otherwise(show_row(right_row(word)), chance, 100):
                found = outcome(desk.say, text)
                self.assertNotEqual(found[1], "NoRow")
                self.assertEqual(found[1] == "NoLine", not is_line(text), repr(text))

    def test_things_of_any_kind(self):
        desk = begun(FORK)
        for thing in [*odd_things(), 0, 1, -1, b"rows", b"forest point 1 a", ["rows"], ("rows",), ("tie", 5, 7), FORK]:
            self.refused(desk, thing, "NoLine")
            self.refused(Desk(), thing, "NoLine")
        self.check_same(desk, FORK, ())

    def test_long_lines(self):
        desk = begun(FORK)
        for line in ("x" * 8000, " " * 8000, "back " * 1600, "\n" * 8000, "tie 0 1 / " * 800, "0" * 8000, "at " + "0" * 7990, "paper 0 " + "-" * 7990, "rows" * 2000):
            self.refused(desk, line, "NoLine")
            self.refused(Desk(), line, "NoLine")
        for line in ("at " + "9" * 7990, "at -" + "9" * 7990):
            self.refused(desk, line, "NoPlace")
            self.refused(Desk(), line, "NoForest")
        for line in ("round " + "9" * 7990, "paper 0 -" + "9" * 7990, "tie 0 " + "9" * 7990):
            self.refused(desk, line, "NoPoint")
        self.refused(desk, "forest " + "point 1 a / " * 600, "NoText")
        self.refused(desk, "forest " + "9" * 7990, "NoText")
        self.check_same(desk, FORK, ())
        figures = "-" + "8" * 7000
        self.told(desk, f"put 7 {figures}", "done")
        self.told(desk, "total 7 7", figures)
        self.told(desk, "top 7 -", figures + " at 7")
        self.told(desk, "back", f"put 7 {figures}")
        self.check_same(desk, FORK, ())

    def test_what_was_told_is_handed_in_again(self):
        for forest in [FORK, *great_forests()]:
            desk = begun(forest)
            rows = desk.say("rows")
            self.told(desk, "forest " + rows, "done")
            self.told(desk, "forest " + desk.say("at 0"), "done")
            self.told(desk, "rows", rows)


if __name__ == "__main__":
    unittest.main()
