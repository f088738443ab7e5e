"""Points [7] and [8]: plain_do and plain_rows; points [2] and [3] (e) of these."""

import copy
import itertools
import random
import unittest

from tests.brute import the_outcome
from tests.makers import FORK, great_forests, middling_forests, odd_things, small_forests, straight
from tests.rowmakers import DEEDS, FORMS, LARGE, POINTS_AT, chance_row, right_row, rows_of, with_part
from tiedcut.errors import Apart, NoPlace, NoPoint, NoRow, NoTie, Ring, TreeError
from tiedcut.forests import is_forest
from tiedcut.plainrows import plain_do, plain_rows

POINTS, TIES = FORK


def outcome(do, forest, row):
    """What a row comes to, a refusal by its name."""
    try:
        return do(forest, row)
    except TreeError as refusal:
        return refusal.__class__.__name__


class Told(unittest.TestCase):

    def told(self, told, *row):
        forest, answer = plain_do(FORK, row)
        self.assertEqual((answer, answer.__class__), (told, told.__class__), row)
        return forest

    def asked(self, told, *row):
        self.assertIs(self.told(told, *row), FORK)

    def refused(self, refusal, *row):
        with self.assertRaises(refusal) as caught:
            plain_do(FORK, row)
        self.assertIs(caught.exception.__class__, refusal, row)


class DeedsByName(Told):

    def points_become(self, forest, changes):
        points = tuple(changes.get(p, point) for p, point in enumerate(POINTS))
        self.assertEqual(forest, (points, TIES))

    def test_new(self):
        self.assertEqual(self.told(9, "new", -4, "h"), ((*POINTS, (-4, "h")), TIES))
        self.assertEqual(plain_do((((1, "a"),), ()), ("new", LARGE, "b")), ((((1, "a"), (LARGE, "b")), ()), 1))

    def test_put(self):
        self.points_become(self.told(None, "put", 3, -20), {3: (-20, "d")})
        self.points_become(self.told(None, "put", 0, LARGE), {0: (LARGE, "a")})
        self.points_become(self.told(None, "put", 8, 0), {8: (0, "a")})
        self.points_become(self.told(None, "put", 2, 4), {})

    def test_paint(self):
        self.points_become(self.told(None, "paint", 3, "h"), {3: (1, "h")})
        self.points_become(self.told(None, "paint", 0, "b"), {0: (3, "b")})
        self.points_become(self.told(None, "paint", 8, "a"), {})

    def test_tie(self):
        self.assertEqual(self.told(None, "tie", 5, 7), (POINTS, ((0, 2), (1, 2), (2, 4), (3, 4), (4, 5), (5, 7), (6, 8))))
        self.assertEqual(self.told(None, "tie", 7, 0), (POINTS, ((0, 2), (0, 7), (1, 2), (2, 4), (3, 4), (4, 5), (6, 8))))
        self.assertEqual(self.told(None, "tie", 8, 7), (POINTS, (*TIES, (7, 8))))
        for pair in ((0, 0), (7, 7), (0, 2), (2, 0), (0, 5), (5, 1), (6, 8), (8, 6)):
            self.refused(Ring, "tie", *pair)

    def test_cut(self):
        for tie in TIES:
            left = tuple(other for other in TIES if other != tie)
            self.assertEqual(self.told(None, "cut", *tie), (POINTS, left))
            self.assertEqual(self.told(None, "cut", *tie[::-1]), (POINTS, left))
        for pair in ((0, 1), (0, 4), (5, 0), (0, 6), (7, 8), (3, 3)):
            self.refused(NoTie, "cut", *pair)

    def test_add(self):
        self.points_become(self.told(None, "add", 0, 5, 10), {0: (13, "a"), 2: (14, "c"), 4: (15, "e"), 5: (19, "f")})
        self.points_become(self.told(None, "add", 8, 6, -3), {6: (-1, "g"), 8: (2, "a")})
        self.points_become(self.told(None, "add", 7, 7, LARGE), {7: (6 + LARGE, "h")})
        self.points_become(self.told(None, "add", 0, 5, 0), {})
        self.refused(Apart, "add", 0, 6, 1)
        self.refused(Apart, "add", 7, 0, 0)

    def test_spread(self):
        self.points_become(self.told(None, "spread", 2, 4, 10), {0: (13, "a"), 1: (11, "b"), 2: (14, "c")})
        self.points_become(self.told(None, "spread", 4, 2, -1), {3: (0, "d"), 4: (4, "e"), 5: (8, "f")})
        self.points_become(self.told(None, "spread", 6, None, 1), {6: (3, "g"), 8: (6, "a")})
        self.points_become(self.told(None, "spread", 7, None, 1), {7: (7, "h")})
        for pair in ((0, 1), (0, 0), (0, 6), (5, 2)):
            self.refused(NoTie, "spread", *pair, 1)


class AsksByName(Told):

    def test_joined(self):
        self.asked(True, "joined", 0, 5)
        self.asked(True, "joined", 7, 7)
        self.asked(False, "joined", 0, 6)
        self.asked(False, "joined", 7, 0)

    def test_way(self):
        self.asked((0, 2, 4, 5), "way", 0, 5)
        self.asked((5, 4, 2, 0), "way", 5, 0)
        self.asked((7,), "way", 7, 7)

    def test_total_and_many(self):
        self.asked(3 + 4 + 5 + 9, "total", 0, 5)
        self.asked(6, "total", 7, 7)
        self.asked(4, "many", 5, 0)
        self.asked(1, "many", 7, 7)

    def test_most(self):
        self.asked((9, 5), "most", 0, 5)
        self.asked((5, 4), "most", 1, 3)
        self.asked((6, 7), "most", 7, 7)

    def test_most_is_the_first_one_from_a(self):
        forest = (((2, "a"), (7, "a"), (3, "a"), (7, "a"), (7, "a")), ((0, 1), (1, 2), (2, 3), (3, 4)))
        self.assertEqual(plain_do(forest, ("most", 0, 4)), (forest, (7, 1)))
        self.assertEqual(plain_do(forest, ("most", 4, 0)), (forest, (7, 4)))
        self.assertEqual(plain_do(forest, ("most", 3, 0)), (forest, (7, 3)))
        self.assertEqual(plain_do(forest, ("top", 3, None)), (forest, (7, 1)))
        self.assertEqual(plain_do(forest, ("top", 3, 2)), (forest, (7, 3)))

    def test_first(self):
        forest = (((0, "b"), (0, "a"), (0, "c"), (0, "a")), ((0, 1), (1, 2), (2, 3)))
        self.assertEqual(plain_do(forest, ("first", 0, 3, "a")), (forest, 1))
        self.assertEqual(plain_do(forest, ("first", 3, 0, "a")), (forest, 3))
        self.assertEqual(plain_do(forest, ("first", 2, 0, "b")), (forest, 0))
        self.assertEqual(plain_do(forest, ("first", 0, 3, "h")), (forest, None))
        self.assertEqual(plain_do(forest, ("least", 3, None, "a")), (forest, 1))
        self.assertEqual(plain_do(forest, ("least", 3, 2, "a")), (forest, 3))
        self.assertEqual(plain_do(forest, ("least", 3, 2, "b")), (forest, None))

    def test_reach(self):
        self.asked(0, "reach", 0, 5, 3)
        self.asked(2, "reach", 0, 5, 4)
        self.asked(5, "reach", 0, 5, 9)
        self.asked(5, "reach", 5, 0, -LARGE)
        self.asked(None, "reach", 0, 5, 10)

    def test_kth(self):
        self.asked(0, "kth", 0, 5, 0)
        self.asked(4, "kth", 0, 5, 2)
        self.asked(5, "kth", 0, 5, 3)
        self.asked(7, "kth", 7, 7, 0)
        for k in (4, 5, LARGE):
            self.refused(NoPlace, "kth", 0, 5, k)
        self.refused(NoPlace, "kth", 7, 7, 1)

    def test_meet(self):
        self.asked(2, "meet", 0, 1, 5)
        self.asked(4, "meet", 5, 3, 0)
        self.asked(7, "meet", 7, 7, 7)
        for three in itertools.permutations((0, 1, 6)):
            self.refused(Apart, "meet", *three)

    def test_sum_size_top_and_least(self):
        self.asked(3 + 1 + 4, "sum", 2, 4)
        self.asked(23, "sum", 0, None)
        self.asked(3, "size", 4, 2)
        self.asked(2, "size", 8, None)
        self.asked((4, 2), "top", 2, 4)
        self.asked((9, 5), "top", 2, None)
        self.asked(1, "least", 2, 4, "b")
        self.asked(None, "least", 4, 2, "b")
        self.asked(8, "least", 6, None, "a")

    def test_apart_where_there_is_no_way(self):
        rows = [("way",), ("total",), ("many",), ("most",), ("first", "a"), ("reach", 0), ("kth", 0), ("kth", LARGE), ("add", 1)]
        for word, *rest in rows:
            self.refused(Apart, word, 0, 6, *rest)
            self.refused(Apart, word, 7, 8, *rest)

    def test_no_tie_where_they_are_no_tied_pair(self):
        for word, *rest in [("sum",), ("size",), ("top",), ("least", "a"), ("spread", 1)]:
            for pair in ((0, 1), (0, 0), (0, 6), (7, 0), (4, 1)):
                self.refused(NoTie, word, *pair, *rest)


class AllRows(unittest.TestCase):

    def check(self, forest, row):
        found = outcome(plain_do, forest, row)
        self.assertEqual(found, outcome(the_outcome, forest, row), (forest, row))
        self.assertEqual(repr(found), repr(outcome(the_outcome, forest, row)))
        if not isinstance(found, str):
            self.assertIs(is_forest(found[0]), True)
            if row[0] not in DEEDS:
                self.assertIs(found[0], forest)

    def test_each_row_on_each_little_forest(self):
        for forest in [forest for many in (1, 2, 3) for forest in small_forests(many)]:
            for row in rows_of(len(forest[0])):
                self.check(forest, row)

    def test_rows_on_middling_forests(self):
        chance = random.Random(11)
        for forest in middling_forests():
            for k in range(300):
                self.check(forest, chance_row(chance, len(forest[0]), k % 2))

    def test_rows_on_forests_of_a_hundred_points(self):
        chance = random.Random(12)
        for forest in great_forests():
            for k in range(60):
                self.check(forest, chance_row(chance, 100))

    def test_the_forest_and_the_row_stay(self):
        chance = random.Random(13)
        for forest in middling_forests():
            kept = copy.deepcopy(forest)
            for k in range(100):
                row = chance_row(chance, len(forest[0]))
                same = copy.deepcopy(row)
                outcome(plain_do, forest, row)
                self.assertEqual((forest, row), (kept, same))

    def test_thirty_figures(self):
        points = ((LARGE, "a"), (-LARGE, "b"), (LARGE - 1, "c"))
        forest = (points, ((0, 1), (1, 2)))
        self.assertEqual(plain_do(forest, ("total", 0, 2))[1], LARGE - 1)
        self.assertEqual(plain_do(forest, ("most", 2, 0))[1], (LARGE, 0))
        self.assertEqual(plain_do(forest, ("add", 0, 1, LARGE))[0][0], ((2 * LARGE, "a"), (0, "b"), (LARGE - 1, "c")))

    def test_turned_about_the_same_is_told(self):
        for forest in middling_forests():
            for a, b in itertools.islice(itertools.product(range(len(forest[0])), repeat=2), 0, None, 3):
                for word in ("joined", "total", "many"):
                    self.assertEqual(outcome(plain_do, forest, (word, a, b)), outcome(plain_do, forest, (word, b, a)))


class RefusedFirst(unittest.TestCase):

    def test_no_row_of_anything(self):
        for thing in [*odd_things(), 0, "tie 0 1", ["tie", 5, 7], ("tie", 5), ("tie", 5, 7, 0), ("kth", 0, 5, -1)]:
            self.assertEqual(outcome(plain_do, FORK, thing), "NoRow")

    def test_no_row_ahead_of_no_point(self):
        for row in (("put", 9, True), ("tie", -1, None), ("kth", 99, 0, -1), ("first", 99, -1, "i"), ("sum", None, 99),
                    ("spread", 99, 99, None), ("meet", 99, 99, "a"), ("paint", -1, "A"), ("new", 0, "z")):
            self.assertEqual(outcome(plain_do, FORK, row), "NoRow")

    def test_no_point_in_each_place(self):
        for word in FORMS:
            row = right_row(word)
            for at in POINTS_AT[word]:
                for number in (9, 10, -1, -2, -9, -10, LARGE, -LARGE):
                    self.assertEqual(outcome(plain_do, FORK, with_part(row, at, number)), "NoPoint", (row, at, number))

    def test_no_point_ahead_of_all_others(self):
        for row in (("tie", 9, 9), ("cut", 0, 9), ("cut", 9, 9), ("add", 0, 9, 1), ("way", -1, -1), ("kth", 0, 9, LARGE),
                    ("meet", 0, 6, 9), ("meet", 9, 0, 6), ("sum", 0, 9), ("top", 9, None), ("least", 9, 9, "a"), ("joined", 9, 9)):
            self.assertEqual(outcome(plain_do, FORK, row), "NoPoint")

    def test_points_as_many_as_there_are(self):
        for many in (1, 2, 5, 100):
            forest = straight(many)
            self.assertEqual(plain_do(forest, ("many", 0, many - 1))[1], many)
            self.assertEqual(outcome(plain_do, forest, ("many", 0, many)), "NoPoint")
            self.assertEqual(outcome(plain_do, forest, ("put", many, 0)), "NoPoint")

    def test_none_as_q_is_no_point_that_is_missing(self):
        self.assertEqual(plain_do(FORK, ("size", 0, None))[1], 6)
        self.assertEqual(outcome(plain_do, FORK, ("size", 0, 9)), "NoPoint")
        self.assertEqual(outcome(plain_do, FORK, ("size", 0, -1)), "NoPoint")

    def test_numbers_of_other_rows_are_no_points(self):
        self.assertEqual(plain_do(FORK, ("put", 0, 99))[1], None)
        self.assertEqual(plain_do(FORK, ("new", 99, "a"))[1], 9)
        self.assertEqual(plain_do(FORK, ("reach", 0, 5, 99))[1], None)
        self.assertEqual(plain_do(FORK, ("add", 0, 5, -99))[1], None)
        self.assertEqual(outcome(plain_do, FORK, ("kth", 0, 5, 99)), "NoPlace")


class ManyRows(unittest.TestCase):

    def one_by_one(self, forest, rows):
        told = []
        for row in rows:
            found = outcome(plain_do, forest, row)
            if isinstance(found, str):
                told.append(("refused", found))
            else:
                forest = found[0]
                told.append(found[1])
        return forest, tuple(told)

    def test_no_rows(self):
        for forest in middling_forests():
            self.assertEqual(plain_rows(forest, ()), (forest, ()))

    def test_named_ones(self):
        rows = (
            ("tie", 0, 1), ("new", 4, "b"), ("tie", 2, 0), ("new", 6, "c"), ("tie", 1, 2), ("tie", 1, 0), ("way", 1, 2), ("tie", 2),
            ("way", 0, 3), ("add", 1, 2, 5), ("total", 1, 2), ("cut", 1, 2), ("kth", 0, 2, 2), ("meet", 0, 1, 2), None, ["way", 0, 0],
            ("sum", 0, 1), ("joined", 0, 1), ("least", 0, None, "h"))
        told = (
            ("refused", "NoPoint"), 1, ("refused", "NoPoint"), 2, None, None, (1, 2), ("refused", "NoRow"),
            ("refused", "NoPoint"), None, 20, None, ("refused", "Apart"), ("refused", "Apart"), ("refused", "NoRow"),
            ("refused", "NoRow"), 3, True, None)
        forest = (((3, "a"), (9, "b"), (11, "c")), ((0, 1),))
        self.assertEqual(plain_rows((((3, "a"),), ()), rows), (forest, told))

    def test_each_refusal_has_its_name(self):
        rows = (("tie", 0, 0), ("cut", 0, 1), ("way", 0, 6), ("kth", 0, 0, 1), ("put", 9, 0), ("put", 0))
        told = tuple(("refused", word) for word in ("Ring", "NoTie", "Apart", "NoPlace", "NoPoint", "NoRow"))
        forest, found = plain_rows(FORK, rows)
        self.assertEqual((forest, found), (FORK, told))

    def test_things_of_any_kind_as_rows(self):
        rows = tuple(odd_things())
        self.assertEqual(plain_rows(FORK, rows), (FORK, (("refused", "NoRow"),) * len(rows)))

    def test_a_thousand_rows_are_as_one_by_one(self):
        for seed in range(4):
            chance = random.Random(seed)
            start = middling_forests()[seed * 3]
            rows = [chance_row(chance, len(start[0]) + 3, 1) for k in range(990)] + odd_things()[:10]
            chance.shuffle(rows)
            kept = copy.deepcopy(start)
            forest, told = plain_rows(start, tuple(rows))
            self.assertEqual((forest, told), self.one_by_one(start, rows))
            self.assertEqual(start, kept)
            self.assertIs(is_forest(forest), True)
            self.assertIsInstance(told, tuple)
            self.assertEqual(len(told), 1000)

    def test_rows_one_behind_another_against_the_oracle(self):
        chance = random.Random(21)
        forest = start = (((0, "a"),) * 12, ())
        rows = tuple(chance_row(chance, 14, 1) for k in range(400))
        expected = []
        for row in rows:
            found = outcome(the_outcome, forest, row)
            expected.append(("refused", found) if isinstance(found, str) else found[1])
            forest = forest if isinstance(found, str) else found[0]
        self.assertEqual(plain_rows(start, rows), (forest, tuple(expected)))


class Names(unittest.TestCase):

    def test_refusals_are_those_of_the_errors(self):
        for refusal, row in [(NoRow, ()), (NoPoint, ("put", 9, 0)), (Ring, ("tie", 0, 0)), (NoTie, ("cut", 0, 0)),
                             (Apart, ("way", 0, 7)), (NoPlace, ("kth", 0, 0, 1))]:
            self.assertRaises(refusal, plain_do, FORK, row)


if __name__ == "__main__":
    unittest.main()
