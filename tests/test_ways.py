"""Points [2], [3] (a), (e), [12] and [13]: the rows that a Ways does, and its shape."""

import copy
import itertools
import random
import unittest

from tests.keeping import asks_of, fitting_row, outcome, plain_outcome, run_beside
from tests.makers import FORK, great_forests, grown, middling_forests, odd_things, small_forests, star, straight
from tests.rowmakers import FORMS, LARGE, POINTS_AT, right_row, rows_of, with_part
from tests.treebrute import the_ties
from tiedcut.shapes import is_shape
from tiedcut.ways import Ways
from tiedcut.wayshapes import ties_of_shape

WORDS = tuple(word for word in FORMS if word not in ("spread", "top", "least"))


class Keeping(unittest.TestCase):

    def check_shape(self, ways, forest):
        """The shape is one of just the points, and tells just the forest's ties."""
        shape = ways.shape()
        self.assertIs(is_shape(shape), True)
        self.assertEqual([row[0] for row in shape], list(range(len(forest[0]))))
        self.assertEqual(ties_of_shape(shape), forest[1])
        self.assertEqual(the_ties(shape), forest[1])

    def check_rows(self, ways, forest, rows):
        """Each row is told, or refused, as the plain forest does: the forest behind them."""
        for row in rows:
            forest, expected = plain_outcome(forest, row)
            self.assertEqual(repr(outcome(ways.do, row)), repr(expected), (forest, row))
        return forest

    def check_all_told(self, ways, forest):
        """All that can be asked of a forest is told as it is."""
        numbers = range(len(forest[0]))
        for a, b in itertools.product(numbers, repeat=2):
            rows = [(word, a, b) for word in ("joined", "way", "total", "many", "most", "sum", "size")]
            rows += [("first", a, b, "a"), ("reach", a, b, 1), ("kth", a, b, 1), ("meet", a, b, (a + b) // 2)]
            self.check_rows(ways, forest, rows)
        self.check_rows(ways, forest, [(word, a, None) for word in ("sum", "size") for a in numbers])
        self.check_shape(ways, forest)


class Beginning(Keeping):

    def test_shape_of_all_forests(self):
        for forest in [*small_forests(4), *middling_forests(), *great_forests()]:
            self.check_shape(Ways(forest), forest)

    def test_all_told(self):
        for forest in [*small_forests(3), *middling_forests()[:12]]:
            self.check_all_told(Ways(forest), forest)


class EachRow(Keeping):

    def test_told_twice_on_little_forests(self):
        for forest in [forest for many in (1, 2, 3) for forest in small_forests(many)]:
            for row in rows_of(len(forest[0])):
                if row[0] in WORDS:
                    ways = Ways(forest)
                    self.check_shape(ways, self.check_rows(ways, forest, [row, row]))

    def test_told_twice_on_all_sorts(self):
        for forest in middling_forests():
            for word in WORDS:
                chance = random.Random(f"{word} {len(forest[0])}")
                for k in range(8):
                    row = fitting_row(chance, forest, (word,), 1)
                    ways = Ways(forest)
                    self.check_shape(ways, self.check_rows(ways, forest, [row, row]))

    def test_told_twice_on_a_hundred_points(self):
        for forest in great_forests():
            for word in WORDS:
                chance = random.Random(word)
                ways = Ways(forest)
                row = fitting_row(chance, forest, (word,))
                self.check_shape(ways, self.check_rows(ways, forest, [row, row]))

    def test_asks_of_each_pair(self):
        for forest in [*middling_forests()[2:6], FORK]:
            ways = Ways(forest)
            for a, b in itertools.product(range(len(forest[0])), repeat=2):
                rows = [("way", a, b), ("most", a, b), ("total", a, b), ("sum", a, b), ("size", b, a), ("joined", a, b), ("many", a, b)]
                rows += [("kth", a, b, k) for k in range(5)] + [("first", a, b, kind) for kind in "abch"]
                rows += [("reach", a, b, x) for x in (-9, -1, 0, 1, 2, 3)]
                self.check_rows(ways, forest, rows)

    def test_every_meeting(self):
        for forest in [FORK, star(5), straight(6), grown(7, 3, 0.2)]:
            ways = Ways(forest)
            rows = [("meet", *three) for three in itertools.product(range(len(forest[0])), repeat=3)]
            self.check_rows(ways, forest, rows)
            self.check_shape(ways, forest)

    def test_named_ones(self):
        ways = Ways(FORK)
        self.assertEqual(ways.do(("way", 0, 5)), (0, 2, 4, 5))
        self.assertEqual(ways.do(("most", 1, 3)), (5, 4))
        self.assertIsNone(ways.do(("add", 0, 5, 10)))
        self.assertEqual(ways.do(("total", 3, 1)), 1 + 15 + 14 + 1)
        self.assertEqual(ways.do(("sum", 2, 4)), 13 + 1 + 14)
        self.assertEqual(ways.do(("size", 4, 2)), 3)
        self.assertEqual(ways.do(("new", 7, "b")), 9)
        self.assertIsNone(ways.do(("tie", 9, 0)))
        self.assertEqual(ways.do(("kth", 9, 5, 3)), 4)
        self.assertIsNone(ways.do(("cut", 4, 2)))
        self.assertIs(ways.do(("joined", 0, 5)), False)
        self.assertEqual(ways.do(("sum", 9, None)), 7 + 13 + 14 + 1)

    def test_what_is_added_stays_when_ties_are_cut(self):
        forest = straight(9)
        rows = [("add", 0, 8, 5), ("cut", 3, 4), ("add", 0, 3, -2), ("total", 0, 3), ("total", 4, 8), ("tie", 0, 8), ("sum", 3, None),
                ("most", 3, 4), ("add", 3, 4, 100), ("cut", 1, 2), ("sum", 0, 1), ("sum", 1, 0), ("way", 3, 2), ("total", 3, 2), ("most", 1, 4)]
        ways = Ways(forest)
        self.check_all_told(ways, self.check_rows(ways, forest, rows))

    def test_thirty_figures(self):
        forest = (((LARGE, "a"), (-LARGE, "b"), (LARGE, "c")), ((0, 1), (1, 2)))
        rows = [("total", 0, 2), ("most", 2, 0), ("add", 0, 2, LARGE), ("total", 0, 2), ("most", 0, 2), ("reach", 0, 2, 2 * LARGE),
                ("reach", 1, 2, -LARGE), ("put", 1, -LARGE), ("sum", 1, 0), ("kth", 0, 2, LARGE), ("new", -LARGE, "h"), ("sum", 3, None)]
        self.check_rows(Ways(forest), forest, rows)


class Refused(Keeping):

    def refused(self, ways, word, row):
        self.assertEqual(outcome(ways.do, row), ("refused", word), row)

    def test_each_refusal(self):
        ways = Ways(FORK)
        for row in (("tie", 0, 0), ("tie", 0, 2), ("tie", 5, 1), ("tie", 8, 6)):
            self.refused(ways, "Ring", row)
        for row in (("cut", 0, 1), ("cut", 0, 5), ("cut", 0, 6), ("cut", 3, 3), ("sum", 0, 5), ("size", 0, 0), ("sum", 7, 0)):
            self.refused(ways, "NoTie", row)
        for row in (("way", 0, 6), ("total", 7, 0), ("many", 6, 7), ("most", 0, 8), ("first", 0, 8, "a"), ("reach", 0, 8, 0),
                    ("kth", 0, 8, 0), ("kth", 0, 8, 99), ("add", 0, 6, 1), ("meet", 0, 1, 7), ("meet", 7, 0, 1), ("meet", 0, 7, 1)):
            self.refused(ways, "Apart", row)
        for row in (("kth", 0, 5, 4), ("kth", 7, 7, 1), ("kth", 0, 0, LARGE)):
            self.refused(ways, "NoPlace", row)
        self.check_all_told(ways, FORK)

    def test_spread_top_and_least_by_their_word_alone(self):
        ways = Ways(FORK)
        for row in (("spread", 2, 4, 1), ("spread", 0, None, 1), ("top", 2, 4), ("top", 0, None), ("least", 2, 4, "a"), ("least", 0, None, "a"),
                    ("spread", 99, None, 1), ("top", -1, 99), ("top", 0, 1), ("least", 0, 99, "a"), ("top",), ("spread", 0), ("least", 0, 0, "z")):
            self.refused(ways, "NoRow", row)
        self.check_all_told(ways, FORK)

    def test_things_of_any_kind(self):
        ways = Ways(FORK)
        for thing in [*odd_things(), 0, "tie 0 7", ["tie", 5, 7], ("tie", 5), ("tie", 5, 7, 0), ("kth", 0, 5, -1), ("put", 0, True)]:
            self.refused(ways, "NoRow", thing)
            self.refused(ways, "NoRow", ("put", thing, None))
            self.refused(ways, "NoRow", (thing, 0, 7, 0, 0))
        self.check_all_told(ways, FORK)

    def test_points_that_are_not_there(self):
        ways = Ways(FORK)
        for word in WORDS:
            row = right_row(word)
            for at in POINTS_AT[word]:
                for number in (9, 10, -1, -9, LARGE, -LARGE):
                    self.refused(ways, "NoPoint", with_part(row, at, number))
        self.refused(ways, "NoRow", ("put", 9, True))
        self.refused(ways, "NoRow", ("kth", 99, 0, -1))
        self.check_all_told(ways, FORK)

    def test_refused_rows_between_others(self):
        forest = FORK
        ways = Ways(forest)
        chance = random.Random(9)
        for k in range(60):
            for row in (("tie", 3, 3), ("cut", 3, 3), ("put", 99, 0), ("top", 0, None), None, ("kth", 0, 0, 7), ("add", 7, 7, "x")):
                self.assertEqual(outcome(ways.do, row)[0], "refused")
            forest = self.check_rows(ways, forest, [fitting_row(chance, forest, WORDS)])
            self.check_shape(ways, forest)

    def test_new_points_are_there_at_once(self):
        ways = Ways((((1, "a"),), ()))
        self.refused(ways, "NoPoint", ("put", 1, 0))
        for p in range(1, 30):
            self.assertEqual(ways.do(("new", p, "b")), p)
            self.assertIsNone(ways.do(("tie", p, p // 2)))
            self.refused(ways, "NoPoint", ("put", p + 1, 0))
        self.assertEqual(ways.do(("sum", 0, None)), 1 + sum(range(1, 30)))


class LongRuns(Keeping):

    def test_all_words(self):
        for number, forest in enumerate(middling_forests()):
            ways = Ways(forest)
            for ahead, row, forest in run_beside(self, ways, forest, WORDS, 250, number):
                self.check_shape(ways, forest)
            self.check_all_told(ways, forest)

    def test_a_thousand_rows_on_a_hundred_points(self):
        for number, forest in enumerate(great_forests()):
            ways = Ways(forest)
            for k, (ahead, row, forest) in enumerate(run_beside(self, ways, forest, WORDS, 1000, number)):
                if k % 50 == 0:
                    self.check_shape(ways, forest)
            self.check_shape(ways, forest)

    def test_few_points_long(self):
        for forest in (straight(2), straight(3), straight(4), grown(5, 1)):
            words = tuple(word for word in WORDS if word != "new")
            ways = Ways(forest)
            for ahead, row, forest in run_beside(self, ways, forest, words, 600, 5):
                self.check_shape(ways, forest)

    def test_asks_alone_change_nothing_that_is_told(self):
        for number, forest in enumerate(middling_forests()):
            ways = Ways(forest)
            for ahead, row, behind in run_beside(self, ways, forest, asks_of(WORDS), 80, number):
                self.assertEqual(behind, forest)
                self.check_shape(ways, forest)


class Forgetting(Keeping):

    def test_the_last_point_is_gone(self):
        ways = Ways(FORK)
        for row in (("new", 5, "a"), ("tie", 9, 0), ("add", 9, 5, 4), ("cut", 9, 0), ("add", 0, 5, -4)):
            ways.do(row)
        ways.forget()
        self.check_all_told(ways, FORK)
        self.assertEqual(outcome(ways.lead_up, 9), ("refused", "NoPoint"))
        self.assertEqual(outcome(ways.do, ("put", 9, 0)), ("refused", "NoPoint"))
        self.assertEqual(ways.do(("new", 6, "b")), 9)


class WayBack(unittest.TestCase):

    def test_a_way_turned_about(self):
        for forest in middling_forests():
            ways = Ways(forest)
            for a, b in itertools.islice(itertools.product(range(len(forest[0])), repeat=2), 0, None, 3):
                there, back = outcome(ways.do, ("way", a, b)), outcome(ways.do, ("way", b, a))
                if there[0] == "refused":
                    self.assertEqual(there, back)
                    continue
                self.assertEqual(there[1], back[1][::-1])
                for word in ("joined", "total", "many"):
                    self.assertEqual(ways.do((word, a, b)), ways.do((word, b, a)))
                self.assertEqual(ways.do(("most", a, b))[0], ways.do(("most", b, a))[0])
                many = ways.do(("many", a, b))
                for k in range(many):
                    self.assertEqual(ways.do(("kth", a, b, k)), ways.do(("kth", b, a, many - 1 - k)))


class Untouched(unittest.TestCase):

    def test_what_is_handed_in(self):
        for forest in middling_forests():
            kept = copy.deepcopy(forest)
            ways = Ways(forest)
            chance = random.Random(1)
            now = forest
            for k in range(60):
                row = fitting_row(chance, now, WORDS, 1)
                same = copy.deepcopy(row)
                outcome(ways.do, row)
                self.assertEqual(row, same)
                now = plain_outcome(now, row)[0]
            self.assertEqual(forest, kept)

    def test_two_keepers_know_nothing_of_one_another(self):
        one, other = Ways(FORK), Ways(FORK)
        kept = (other.shape(), other.looks(), other.credit())
        for row in (("add", 0, 5, 9), ("tie", 5, 7), ("new", 0, "a"), ("way", 0, 7), ("cut", 2, 4), ("paint", 0, "h")):
            one.do(row)
        self.assertEqual((other.shape(), other.looks(), other.credit()), kept)
        self.assertEqual(other.do(("total", 0, 5)), 21)

    def test_what_was_told_stays(self):
        ways = Ways(FORK)
        shape, way = ways.shape(), ways.do(("way", 0, 5))
        kept = repr((shape, way))
        for row in (("tie", 5, 7), ("way", 7, 0), ("cut", 2, 4)):
            ways.do(row)
        self.assertEqual(repr((shape, way)), kept)


if __name__ == "__main__":
    unittest.main()
