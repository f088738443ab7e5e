"""Points [2], [3] (a), (d), (f), [18], [19] and [20]: the class Twin."""

import copy
import itertools
import random
import unittest

from tests.keeping import fitting_row, outcome, plain_outcome, run_beside
from tests.makers import FORK, great_forests, grown, middling_forests, odd_things, small_forests, straight
from tests.roundbrute import parts_of
from tests.rowmakers import DEEDS, FORMS, LARGE, POINTS_AT, right_row, rows_of, with_part
from tiedcut.forests import is_forest
from tiedcut.plainrows import plain_rows
from tiedcut.roundmarks import is_round, ties_of_round
from tiedcut.rounds import Rounds
from tiedcut.shapes import is_shape
from tiedcut.twin import Twin
from tiedcut.ways import Ways
from tiedcut.wayshapes import ties_of_shape

WORDS = tuple(FORMS)
WAYS_ALONE = ("way", "total", "many", "most", "first", "reach", "kth", "meet")
ROUNDS_ALONE = ("top", "least")
BOTH = ("new", "put", "paint", "tie", "cut", "joined", "sum", "size")

# One row of each deed, and what they come to.
SOME_DEEDS = (("new", 4, "b"), ("tie", 9, 0), ("put", 2, 30), ("paint", 2, "h"), ("add", 9, 5, 7), ("spread", 2, 4, -2), ("cut", 4, 2),
              ("spread", 6, None, 5), ("new", -1, "c"), ("tie", 10, 7), ("add", 10, 7, 2), ("cut", 0, 9), ("new", 0, "a"))


def all_asks(forest, chance=None, many=None):
    """Asks of all words, of all points, or as many by chance."""
    numbers = range(len(forest[0]))
    rows = [(word, a, b) for word in ("joined", "way", "total", "many", "most", "sum", "size", "top") for a in numbers for b in numbers]
    for a, b in itertools.product(numbers, repeat=2):
        rows += [("first", a, b, "ab"[a % 2]), ("reach", a, b, 2), ("kth", a, b, 1), ("meet", a, b, (a + b) // 2), ("least", a, b, "a")]
    rows += [(word, a, None) for word in ("sum", "size", "top") for a in numbers] + [("least", a, None, "c") for a in numbers]
    return rows if many is None else chance.sample(rows, min(many, len(rows)))


class Keeping(unittest.TestCase):

    def check_told(self, twin, forest, rows):
        """Each row is told, or refused, as the plain forest does: the forest behind them."""
        for row in rows:
            forest, expected = plain_outcome(forest, row)
            self.assertEqual(repr(outcome(twin.do, row)), repr(expected), (forest, row))
            self.assertEqual(twin.forest(), forest)
        return forest

    def check_book(self, twin, forest):
        """The book tells just the forest."""
        book = twin.book()
        self.assertIsInstance(book, tuple)
        shape, rounds = book
        self.assertIs(is_shape(shape), True)
        self.assertEqual([row[0] for row in shape], list(range(len(forest[0]))))
        self.assertEqual(ties_of_shape(shape), forest[1])
        self.assertIsInstance(rounds, tuple)
        found = []
        for marks in rounds:
            self.assertIs(is_round(marks), True)
            found.append(tuple(sorted(mark[1] for mark in marks if mark[0] == "point")))
            self.assertEqual(marks[0], ("point", found[-1][0]))
        self.assertEqual(found, parts_of(forest))
        self.assertEqual(tuple(sorted(tie for marks in rounds for tie in ties_of_round(marks))), forest[1])

    def check_same(self, twin, forest, done):
        """All that is told is as it is with this forest and these deeds."""
        self.assertEqual(twin.forest(), forest)
        self.assertEqual(twin.done(), tuple(done))
        self.check_told(twin, forest, all_asks(forest, random.Random(1), 150))
        self.check_book(twin, forest)


class Rows(Keeping):

    def test_each_row_on_little_forests(self):
        for forest in [forest for many in (1, 2, 3) for forest in small_forests(many)]:
            for row in rows_of(len(forest[0])):
                self.check_told(Twin(forest), forest, [row, row])

    def test_rows_on_all_sorts(self):
        for forest in middling_forests():
            for word in WORDS:
                chance = random.Random(f"{word} {len(forest[0])}")
                for k in range(3):
                    row = fitting_row(chance, forest, (word,), 1)
                    self.check_told(Twin(forest), forest, [row, row])

    def test_each_deed_followed_by_all_asks(self):
        forest = FORK
        twin = Twin(forest)
        for row in SOME_DEEDS:
            forest = self.check_told(twin, forest, [row])
            self.check_told(twin, forest, all_asks(forest))
            self.check_book(twin, forest)

    def test_long_runs(self):
        for number, forest in enumerate(middling_forests()):
            twin = Twin(forest)
            for k, (ahead, row, forest) in enumerate(run_beside(self, twin, forest, WORDS, 250, number)):
                self.assertEqual(twin.forest(), forest)
                if k % 25 == 0:
                    self.check_book(twin, forest)
            self.check_told(twin, forest, all_asks(forest, random.Random(number), 200))

    def test_a_thousand_rows_on_a_hundred_points(self):
        for number, forest in enumerate(great_forests()):
            twin = Twin(forest)
            for ahead, row, forest in run_beside(self, twin, forest, WORDS, 1000 if number < 4 else 250, number):
                self.assertEqual(twin.forest(), forest)
            self.check_book(twin, forest)

    def test_both_ways_of_keeping_tell_alike(self):
        for number, forest in enumerate(middling_forests()):
            ways, rounds = Ways(forest), Rounds(forest)
            chance = random.Random(number)
            for k in range(150):
                row = fitting_row(chance, forest, BOTH, 1)
                self.assertEqual(outcome(ways.do, row), outcome(rounds.do, row))
                forest = plain_outcome(forest, row)[0]


class Refused(Keeping):

    def test_first_of_all(self):
        twin = Twin(FORK)
        for thing in [*odd_things(), 0, "tie 0 7", ["tie", 5, 7], ("tie", 5), ("kth", 0, 5, -1), ("put", 9, True), ("top", None, 0)]:
            self.assertEqual(outcome(twin.do, thing), ("refused", "NoRow"))
        for word in WORDS:
            for at in POINTS_AT[word]:
                for number in (9, -1, -9, LARGE):
                    self.assertEqual(outcome(twin.do, with_part(right_row(word), at, number)), ("refused", "NoPoint"))
        self.check_same(twin, FORK, ())
        self.assertEqual(outcome(twin.back), ("refused", "NoDeed"))

    def test_deeds_that_are_refused_are_none(self):
        twin = Twin(FORK)
        twin.do(("put", 0, 50))
        forest = twin.forest()
        for row in (("tie", 0, 5), ("cut", 0, 5), ("add", 0, 7, 1), ("spread", 0, 5, 1), ("put", 9, 1), ("new", 0, "z"), ("paint", 0, None)):
            self.assertEqual(outcome(twin.do, row)[0], "refused")
            self.check_same(twin, forest, (("put", 0, 50),))
        self.assertEqual(twin.back(), ("put", 0, 50))
        self.check_same(twin, FORK, ())


class Looks(unittest.TestCase):

    def test_of_one_alone(self):
        for number, forest in enumerate(middling_forests()):
            twin = Twin(forest)
            self.assertEqual(twin.looks(), (0, 0))
            chance = random.Random(number)
            for k in range(200):
                row = fitting_row(chance, forest, WORDS, 1)
                ahead = twin.looks()
                outcome(twin.do, row)
                behind = twin.looks()
                self.assertIsInstance(behind, tuple)
                self.assertEqual(len(behind), 2)
                self.assertTrue(behind[0] >= ahead[0] and behind[1] >= ahead[1])
                if row[0] in WAYS_ALONE:
                    self.assertEqual(behind[1], ahead[1])
                if row[0] in ROUNDS_ALONE:
                    self.assertEqual(behind[0], ahead[0])
                forest = plain_outcome(forest, row)[0]

    def test_what_both_do_is_done_by_both(self):
        for row in (("put", 5, 1), ("paint", 5, "a"), ("tie", 5, 7), ("cut", 0, 2), ("joined", 0, 5), ("sum", 0, 2), ("size", 4, 5),
                    ("add", 0, 5, 1), ("spread", 4, 2, 1)):
            twin = Twin(FORK)
            twin.do(row)
            self.assertTrue(twin.looks()[0] > 0, row)
            self.assertTrue(twin.looks()[1] > 0, row)

    def test_as_of_the_keepers_alone(self):
        """Of rows without add and spread the looks are those that a Ways and a Rounds have by themselves."""
        words = tuple(word for word in WORDS if word not in ("add", "spread"))
        for number, forest in enumerate(middling_forests()):
            twin, ways, rounds = Twin(forest), Ways(forest), Rounds(forest)
            chance = random.Random(number)
            for k in range(100):
                row = fitting_row(chance, forest, words, 1)
                forest = plain_outcome(forest, row)[0]
                for keeper in (twin, ways, rounds):
                    outcome(keeper.do, row)
                self.assertEqual(twin.looks(), (ways.looks(), rounds.looks()))
            self.assertEqual(twin.book()[0], ways.shape())

    def test_never_fall_when_gone_back(self):
        twin = Twin(FORK)
        for row in SOME_DEEDS:
            twin.do(row)
        looks = twin.looks()
        for row in SOME_DEEDS:
            twin.back()
            twin.book()
            self.assertTrue(twin.looks()[0] >= looks[0] and twin.looks()[1] >= looks[1])
            looks = twin.looks()


class GoingBack(Keeping):

    def test_nothing_to_undo(self):
        for forest in middling_forests()[:4]:
            twin = Twin(forest)
            for k in range(3):
                self.assertEqual(outcome(twin.back), ("refused", "NoDeed"))
            self.assertEqual(twin.done(), ())
            self.check_same(twin, forest, ())

    def test_each_deed_undone(self):
        for row in (("new", 4, "b"), ("put", 2, 30), ("paint", 2, "h"), ("tie", 5, 7), ("cut", 4, 2), ("add", 0, 5, 7), ("spread", 2, 4, -2),
                    ("spread", 6, None, 5), ("put", 2, 4), ("paint", 2, "c"), ("add", 7, 7, 0), ("add", 0, 5, LARGE), ("tie", 8, 7)):
            twin = Twin(FORK)
            twin.do(row)
            self.assertEqual(twin.done(), (row,))
            self.assertIs(twin.back(), row)
            self.check_same(twin, FORK, ())
            self.assertEqual(outcome(twin.back), ("refused", "NoDeed"))
            twin.do(row)
            self.check_same(twin, plain_rows(FORK, (row,))[0], (row,))

    def test_one_by_one_and_done_again(self):
        twin = Twin(FORK)
        forests = [FORK]
        for row in SOME_DEEDS:
            forests.append(self.check_told(twin, forests[-1], [row]))
        for turn in range(2):
            for k in range(len(SOME_DEEDS) - 1, -1, -1):
                self.assertEqual(twin.back(), SOME_DEEDS[k])
                self.check_same(twin, forests[k], SOME_DEEDS[:k])
            self.assertEqual(outcome(twin.back), ("refused", "NoDeed"))
            for k, row in enumerate(SOME_DEEDS):
                self.check_told(twin, forests[k], [row])
                self.check_same(twin, forests[k + 1], SOME_DEEDS[:k + 1])

    def test_numbers_are_given_anew(self):
        twin = Twin(FORK)
        self.assertEqual(twin.do(("new", 1, "a")), 9)
        self.assertEqual(twin.do(("new", 2, "b")), 10)
        twin.do(("tie", 9, 10))
        self.assertEqual([twin.back() for k in range(3)], [("tie", 9, 10), ("new", 2, "b"), ("new", 1, "a")])
        self.assertEqual(outcome(twin.do, ("put", 9, 0)), ("refused", "NoPoint"))
        self.assertEqual(twin.do(("new", 3, "c")), 9)
        self.assertEqual(twin.do(("top", 9, None)), (3, 9))
        self.assertEqual(twin.do(("total", 9, 9)), 3)
        self.check_same(twin, ((*FORK[0], (3, "c")), FORK[1]), (("new", 3, "c"),))

    def test_asks_are_no_deeds(self):
        twin = Twin(FORK)
        twin.do(("put", 0, 1))
        for row in all_asks(FORK, random.Random(3), 100):
            outcome(twin.do, row)
        self.assertEqual(twin.done(), (("put", 0, 1),))
        self.assertEqual(twin.back(), ("put", 0, 1))

    def test_long_runs_to_and_fro(self):
        for number, forest in enumerate([*middling_forests(), *great_forests()[:3]]):
            chance = random.Random(number)
            twin = Twin(forest)
            forests, deeds = [forest], []
            for k in range(250):
                if chance.random() < 0.35:
                    expected = ("told", deeds[-1]) if deeds else ("refused", "NoDeed")
                    self.assertEqual(outcome(twin.back), expected)
                    if deeds:
                        deeds.pop()
                        forests.pop()
                else:
                    row = fitting_row(chance, forests[-1], WORDS, 1)
                    behind, expected = plain_outcome(forests[-1], row)
                    self.assertEqual(repr(outcome(twin.do, row)), repr(expected))
                    if expected[0] == "told" and row[0] in DEEDS:
                        deeds.append(row)
                        forests.append(behind)
                self.assertEqual(twin.forest(), forests[-1])
                self.assertEqual(twin.done(), tuple(deeds))
            self.check_same(twin, forests[-1], deeds)
            for at, past in enumerate(forests):
                self.assertEqual(twin.at(at), past)
            while deeds:
                self.assertEqual(twin.back(), deeds.pop())
            self.check_same(twin, forest, ())

    def test_the_row_as_handed_in(self):
        twin = Twin(FORK)
        row = ("tie", 7, 5)
        twin.do(row)
        self.assertEqual(repr(twin.done()), repr((row,)))
        self.assertEqual(repr(twin.back()), repr(row))


class At(unittest.TestCase):

    def test_each_place(self):
        twin = Twin(FORK)
        self.assertEqual(twin.at(0), FORK)
        for k, row in enumerate(SOME_DEEDS, 1):
            twin.do(row)
            for at in range(k + 1):
                self.assertEqual(twin.at(at), plain_rows(FORK, SOME_DEEDS[:at])[0])
                self.assertIs(is_forest(twin.at(at)), True)
        for k in range(len(SOME_DEEDS), 0, -1):
            twin.back()
            self.assertEqual(twin.at(k - 1), plain_rows(FORK, SOME_DEEDS[:k - 1])[0])
            self.assertEqual(outcome(twin.at, k), ("refused", "NoPlace"))

    def test_what_is_no_place(self):
        twin = Twin(FORK)
        twin.do(("put", 0, 1))
        kept = (twin.forest(), twin.done(), twin.looks())
        for thing in [*odd_things(), -1, -2, 2, 3, LARGE, -LARGE, "0", (0,), [0], 0.0, 1.0, "at"]:
            self.assertEqual(outcome(twin.at, thing), ("refused", "NoPlace"))
        self.assertEqual((twin.forest(), twin.done(), twin.looks()), kept)


class Book(Keeping):

    def test_at_the_beginning(self):
        for forest in [*small_forests(4), *middling_forests(), *great_forests()]:
            self.check_book(Twin(forest), forest)

    def test_named_one(self):
        shape, rounds = Twin((((1, "a"), (2, "b"), (3, "c")), ((0, 2),))).book()
        self.assertEqual(rounds, ((("point", 0), ("over", 0, 2), ("point", 2), ("over", 2, 0)), (("point", 1),)))
        self.assertEqual(ties_of_shape(shape), ((0, 2),))

    def test_behind_rows_and_back(self):
        for number, forest in enumerate(middling_forests()):
            twin = Twin(forest)
            chance = random.Random(number)
            for k in range(60):
                outcome(twin.do, fitting_row(chance, twin.forest(), WORDS, 1))
                outcome(twin.do, ("tie", 0, 0))
                self.check_book(twin, twin.forest())
                if k % 3 == 0:
                    outcome(twin.back)
                    self.check_book(twin, twin.forest())

    def test_it_changes_nothing_that_is_told(self):
        twin = Twin(FORK)
        for row in SOME_DEEDS[:6]:
            twin.do(row)
        forest = twin.forest()
        for k in range(3):
            self.assertEqual(twin.book()[0], twin.book()[0])
            self.check_same(twin, forest, SOME_DEEDS[:6])


class Untouched(unittest.TestCase):

    def test_what_is_handed_in(self):
        for forest in (FORK, grown(9, 2), straight(5)):
            kept = copy.deepcopy(forest)
            twin = Twin(forest)
            chance = random.Random(1)
            for k in range(80):
                row = fitting_row(chance, twin.forest(), WORDS, 1)
                same = copy.deepcopy(row)
                outcome(twin.do, row)
                self.assertEqual(row, same)
                if k % 4 == 0:
                    outcome(twin.back)
            self.assertEqual(forest, kept)

    def test_two_twins_know_nothing_of_one_another(self):
        one, other = Twin(FORK), Twin(FORK)
        for row in SOME_DEEDS:
            one.do(row)
        self.assertEqual((other.forest(), other.done(), other.looks()), (FORK, (), (0, 0)))

    def test_what_was_told_stays(self):
        twin = Twin(FORK)
        twin.do(SOME_DEEDS[0])
        told = (twin.done(), twin.forest(), twin.book(), twin.at(0), twin.looks())
        kept = repr(told)
        for row in SOME_DEEDS[1:]:
            twin.do(row)
        twin.back()
        self.assertEqual(repr(told), kept)


if __name__ == "__main__":
    unittest.main()
