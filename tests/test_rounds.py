"""Points [2], [3] (a), (c) and [17]: the class Rounds and rounds_bound."""

import copy
import itertools
import random
import unittest

from tests.brute import the_part
from tests.keeping import asks_of, fitting_row, outcome, plain_outcome, run_beside
from tests.makers import FORK, comb, great_forests, grown, halving, middling_forests, odd_things, small_forests, star, straight
from tests.roundbrute import parts_of
from tests.rowmakers import FORMS, LARGE, POINTS_AT, right_row, rows_of, with_part
from tests.treebrute import as_dict, halvings, strand_tops, the_credit, the_lift, the_order
from tiedcut.roundmarks import is_round, ties_of_round
from tiedcut.rounds import Rounds, rounds_bound
from tiedcut.shapes import is_shape, shows_turned

WORDS = ("new", "put", "paint", "tie", "cut", "spread", "joined", "sum", "size", "top", "least")
OTHERS = tuple(word for word in FORMS if word not in WORDS)


def marks_due(forest):
    """All marks there are: one of each point, and two of each tie."""
    points, ties = forest
    overs = [("over", *pair) for tie in ties for pair in (tie, tie[::-1])]
    return sorted(overs + [("point", p) for p in range(len(points))])


def cycles(shape):
    """The order of each tree, begun with the least of its marks that is a point's."""
    rows = as_dict(shape)
    found = []
    for top in strand_tops(rows):
        marks = the_order(rows, top)
        at = marks.index(min(mark for mark in marks if mark[0] == "point"))
        found.append(tuple(marks[at:] + marks[:at]))
    return sorted(found)


class Keeping(unittest.TestCase):

    def check_shape(self, rounds, forest):
        """Just the marks due, nothing turned, one tree for each part, its order a round."""
        shape = rounds.shape()
        self.assertIs(is_shape(shape), True)
        self.assertEqual([row[0] for row in shape], marks_due(forest))
        self.assertFalse(any(row[4] for row in shape))
        rows = as_dict(shape)
        self.assertTrue(all(rows[top][2] is None for top in strand_tops(rows)))
        found = cycles(shape)
        for marks in found:
            self.assertIs(is_round(marks), True, marks)
        self.assertEqual([marks[0][1] for marks in found], [part[0] for part in parts_of(forest)])
        self.assertEqual(tuple(sorted(tie for marks in found for tie in ties_of_round(marks))), forest[1])

    def check_rows(self, rounds, forest, rows):
        """Each row is told, or refused, as the plain forest does: the forest behind them."""
        for row in rows:
            forest, expected = plain_outcome(forest, row)
            self.assertEqual(repr(outcome(rounds.do, row)), repr(expected), (forest, row))
        return forest

    def check_round(self, rounds, forest, p):
        """p's round begins with its mark, and is one of just its part."""
        marks = rounds.round(p)
        self.assertIsInstance(marks, tuple)
        self.assertEqual(marks[0], ("point", p))
        self.assertIs(is_round(marks), True)
        part = the_part(forest, p)
        self.assertEqual(tuple(sorted(mark[1] for mark in marks if mark[0] == "point")), part)
        self.assertEqual(len(marks), 3 * len(part) - 2)
        self.assertEqual(ties_of_round(marks), tuple(tie for tie in forest[1] if tie[0] in part))

    def check_all_told(self, rounds, forest):
        """All that can be asked of a forest is told as it is."""
        numbers = range(len(forest[0]))
        pairs = [pair for tie in forest[1] for pair in (tie, tie[::-1])] + [(p, None) for p in numbers]
        for p, q in [*pairs, (0, 0), (0, numbers[-1])]:
            rows = [("sum", p, q), ("size", p, q), ("top", p, q)] + [("least", p, q, kind) for kind in "abcd"]
            self.check_rows(rounds, forest, rows)
        self.check_rows(rounds, forest, [("joined", a, b) for a, b in itertools.product(numbers, repeat=2)])
        for p in numbers:
            self.check_round(rounds, forest, p)
        self.check_shape(rounds, forest)


class Beginning(Keeping):

    def test_shape_of_all_forests(self):
        for forest in [*small_forests(4), *middling_forests(), *great_forests()]:
            rounds = Rounds(forest)
            self.check_shape(rounds, forest)
            self.assertEqual(rounds.looks(), 0)

    def test_all_told(self):
        for forest in [*small_forests(4), *middling_forests()]:
            self.check_all_told(Rounds(forest), forest)


class EachRow(Keeping):

    def test_told_twice_on_little_forests(self):
        for forest in [forest for many in (1, 2, 3) for forest in small_forests(many)]:
            for row in rows_of(len(forest[0])):
                if row[0] in WORDS:
                    rounds = Rounds(forest)
                    self.check_shape(rounds, self.check_rows(rounds, forest, [row, row]))

    def test_told_twice_on_all_sorts(self):
        for forest in middling_forests():
            for word in WORDS:
                chance = random.Random(f"{word} {len(forest[0])}")
                for k in range(12):
                    row = fitting_row(chance, forest, (word,), 1)
                    rounds = Rounds(forest)
                    self.check_shape(rounds, self.check_rows(rounds, forest, [row, row]))

    def test_told_twice_on_a_hundred_points(self):
        for forest in great_forests():
            for word in WORDS:
                rounds = Rounds(forest)
                row = fitting_row(random.Random(word), forest, (word,))
                self.check_shape(rounds, self.check_rows(rounds, forest, [row, row]))

    def test_sides_wherever_the_round_is_begun(self):
        """A mark on top tells where the tree's order begins; both sides of a tie are asked behind each lift."""
        for forest in (FORK, straight(5), star(5)):
            rounds = Rounds(forest)
            for mark in marks_due(forest):
                for p, q in [pair for tie in forest[1] for pair in (tie, tie[::-1])]:
                    rounds.lift(mark)
                    rows = [("sum", p, q), ("size", p, q), ("top", p, q), ("least", p, q, "a"), ("spread", p, q, 3), ("spread", p, q, -3)]
                    self.check_rows(rounds, forest, rows)

    def test_each_tie_cut_and_tied_again(self):
        for forest in (FORK, straight(6), star(6), comb(7), grown(8, 4)):
            for a, b in [pair for tie in forest[1] for pair in (tie, tie[::-1])]:
                rounds = Rounds(forest)
                now = self.check_rows(rounds, forest, [("cut", a, b)])
                self.check_all_told(rounds, now)
                now = self.check_rows(rounds, now, [("tie", a, b)])
                self.assertEqual(now, forest)
                self.check_all_told(rounds, now)

    def test_named_ones(self):
        rounds = Rounds(FORK)
        self.assertEqual(rounds.do(("sum", 2, 4)), 8)
        self.assertEqual(rounds.do(("top", 2, None)), (9, 5))
        self.assertIsNone(rounds.do(("spread", 2, 4, 10)))
        self.assertEqual(rounds.do(("top", 4, None)), (14, 2))
        self.assertEqual(rounds.do(("sum", 4, None)), 53)
        self.assertIsNone(rounds.do(("cut", 4, 2)))
        self.assertEqual(rounds.do(("sum", 0, None)), 38)
        self.assertEqual(rounds.do(("least", 5, None, "e")), 4)
        self.assertIsNone(rounds.do(("least", 5, None, "a")))
        self.assertEqual(rounds.do(("new", 7, "b")), 9)
        self.assertIsNone(rounds.do(("tie", 9, 0)))
        self.assertEqual(rounds.do(("size", 0, 9)), 3)

    def test_top_is_the_least_point_that_has_it(self):
        forest = (((7, "b"), (7, "a"), (3, "a"), (7, "a"), (7, "b")), ((0, 3), (1, 3), (2, 3), (2, 4)))
        rounds = Rounds(forest)
        for row, told in [(("top", 4, None), (7, 0)), (("top", 2, 3), (7, 4)), (("top", 3, 0), (7, 1)), (("least", 0, None, "a"), 1),
                          (("least", 2, 3, "a"), 2), (("least", 2, 3, "b"), 4), (("least", 3, 0, "b"), 4), (("least", 0, 3, "a"), None)]:
            self.assertEqual(rounds.do(row), told)

    def test_spreads_over_parts_that_are_tied_and_cut_later(self):
        forest = (middling_forests()[4][0], ())
        rounds = Rounds(forest)
        rows = [("spread", 0, None, 5), ("tie", 0, 1), ("spread", 1, None, 3), ("tie", 2, 1), ("spread", 1, 2, 7), ("spread", 2, 1, -1),
                ("cut", 0, 1), ("sum", 0, None), ("sum", 1, None), ("spread", 1, 2, 4), ("tie", 0, 2), ("spread", 2, 0, 100), ("sum", 0, 2),
                ("top", 0, None), ("cut", 1, 2), ("spread", 2, None, -50), ("tie", 1, 0), ("top", 1, 0), ("top", 0, 1), ("sum", 2, 0)]
        forest = self.check_rows(rounds, forest, rows)
        self.check_all_told(rounds, forest)

    def test_thirty_figures(self):
        forest = (((LARGE, "a"), (-LARGE, "b"), (LARGE, "c")), ((0, 1), (1, 2)))
        rows = [("sum", 0, None), ("top", 2, None), ("spread", 1, 2, LARGE), ("sum", 1, 2), ("top", 1, 0), ("put", 1, -LARGE), ("sum", 1, 0)]
        self.check_rows(Rounds(forest), forest, rows)


class Refused(Keeping):

    def refused(self, rounds, word, row):
        self.assertEqual(outcome(rounds.do, row), ("refused", word), row)

    def test_each_refusal(self):
        rounds = Rounds(FORK)
        for row in (("tie", 0, 0), ("tie", 0, 2), ("tie", 5, 1), ("tie", 8, 6)):
            self.refused(rounds, "Ring", row)
        for pair in ((0, 1), (0, 5), (0, 6), (3, 3), (7, 0)):
            for row in (("cut", *pair), ("sum", *pair), ("size", *pair), ("top", *pair), ("least", *pair, "a"), ("spread", *pair, 1)):
                self.refused(rounds, "NoTie", row)
        self.check_all_told(rounds, FORK)

    def test_other_words_by_their_word_alone(self):
        rounds = Rounds(FORK)
        for word in OTHERS:
            row = right_row(word)
            for other in (row, with_part(row, 1, 99), row[:2], (*row, 0), with_part(row, 2, None), (word,)):
                self.refused(rounds, "NoRow", other)
        self.check_all_told(rounds, FORK)

    def test_things_of_any_kind(self):
        rounds = Rounds(FORK)
        for thing in [*odd_things(), 0, "tie 0 7", ["tie", 5, 7], ("tie", 5), ("tie", 5, 7, 0), ("least", 0, None, "z"), ("put", 0, True)]:
            self.refused(rounds, "NoRow", thing)
            self.refused(rounds, "NoRow", ("put", thing, None))
            self.refused(rounds, "NoRow", (thing, 0, 7, 0, 0))
        self.check_all_told(rounds, FORK)

    def test_points_that_are_not_there(self):
        rounds = Rounds(FORK)
        for word in WORDS:
            row = right_row(word)
            for at in POINTS_AT[word]:
                for number in (9, 10, -1, -9, LARGE, -LARGE):
                    self.refused(rounds, "NoPoint", with_part(row, at, number))
        for thing in (9, -1, -9, LARGE, None, True, False, "0", 0.0, (0,), [0], ("point", 0), *odd_things()):
            self.assertEqual(outcome(rounds.round, thing), ("refused", "NoPoint"))
        self.check_all_told(rounds, FORK)

    def test_refused_rows_between_others(self):
        forest = FORK
        rounds = Rounds(forest)
        chance = random.Random(9)
        for k in range(80):
            for row in (("tie", 3, 3), ("cut", 3, 3), ("put", 99, 0), ("way", 0, 0), None, ("sum", 0, 0), ("spread", 7, 7, "x")):
                self.assertEqual(outcome(rounds.do, row)[0], "refused")
            forest = self.check_rows(rounds, forest, [fitting_row(chance, forest, WORDS)])
            self.check_shape(rounds, forest)


class LongRuns(Keeping):

    def test_all_words(self):
        for number, forest in enumerate(middling_forests()):
            rounds = Rounds(forest)
            for k, (ahead, row, forest) in enumerate(run_beside(self, rounds, forest, WORDS, 250, number)):
                if k % 5 == 0:
                    self.check_shape(rounds, forest)
                self.check_round(rounds, forest, k % len(forest[0]))
            self.check_all_told(rounds, forest)

    def test_a_thousand_rows_on_a_hundred_points(self):
        for number, forest in enumerate(great_forests()):
            rounds = Rounds(forest)
            for k, (ahead, row, forest) in enumerate(run_beside(self, rounds, forest, WORDS, 1000, number)):
                if k % 100 == 0:
                    self.check_shape(rounds, forest)
            self.check_shape(rounds, forest)

    def test_few_points_long(self):
        words = tuple(word for word in WORDS if word != "new")
        for forest in (straight(2), straight(3), straight(4), grown(5, 1)):
            rounds = Rounds(forest)
            for ahead, row, forest in run_beside(self, rounds, forest, words, 500, 5):
                self.check_shape(rounds, forest)


class Turning(Keeping):

    def test_lift_as_told(self):
        for forest in [*small_forests(3), *middling_forests(), halving(40)]:
            rounds = Rounds(forest)
            marks = marks_due(forest)
            for mark in [*marks[::3], *marks[::-4], *marks[:2] * 2]:
                ahead, looks = rounds.shape(), rounds.looks()
                names, behind = the_lift(ahead, mark)
                told = rounds.lift(mark)
                self.assertIsInstance(told, tuple)
                self.assertEqual(told, names)
                self.assertEqual(rounds.shape(), behind)
                self.assertIs(shows_turned(ahead, told, behind), True)
                self.assertEqual(rounds.looks(), looks + len(told))
                self.assertIsNone(as_dict(behind)[mark][2])

    def test_lift_of_what_is_no_mark_there(self):
        rounds = Rounds(FORK)
        kept = (rounds.shape(), rounds.looks())
        things = [*odd_things(), 0, 1, ("point", 9), ("point", -1), ("point", True), ("point", False), ("point", 0.0), ["point", 0], ("point",)]
        things += [("over", 0, 1), ("over", 0, 0), ("over", 0, 99), ("over", False, 2), ["over", 0, 2], ("over", 0), ("over", 0, 2, 0), "point"]
        things += [(("point", 0),), ("Point", 0), ("point", "0"), ("point", LARGE), ("over", 2.0, 4), ("point", 0, 0), ("over", (0,), (2,))]
        for thing in things:
            self.assertEqual(outcome(rounds.lift, thing), ("refused", "NoPlace"), thing)
        self.assertEqual((rounds.shape(), rounds.looks()), kept)
        self.assertEqual(outcome(rounds.lift, ("over", 2, 0))[0], "told")

    def test_marks_come_and_go_with_ties(self):
        rounds = Rounds(FORK)
        self.assertEqual(outcome(rounds.lift, ("over", 7, 5)), ("refused", "NoPlace"))
        rounds.do(("tie", 5, 7))
        self.assertEqual(outcome(rounds.lift, ("over", 7, 5))[0], "told")
        rounds.do(("cut", 5, 7))
        self.assertEqual(outcome(rounds.lift, ("over", 7, 5)), ("refused", "NoPlace"))
        self.assertEqual(outcome(rounds.lift, ("over", 5, 7)), ("refused", "NoPlace"))
        rounds.do(("new", 0, "a"))
        self.assertEqual(outcome(rounds.lift, ("point", 9)), ("told", ()))

    def test_asks_put_paint_spread_and_round_turn_marks_alone(self):
        """The order of each tree stays then, and who is in it."""
        words = asks_of(WORDS) + ("put", "paint", "spread")
        for number, forest in enumerate(middling_forests()):
            rounds = Rounds(forest)
            orders = self.orders(rounds)
            for k, (ahead, row, forest) in enumerate(run_beside(self, rounds, forest, words, 60, number)):
                self.assertEqual(self.orders(rounds), orders)
                rounds.round(k % len(forest[0]))
                rounds.lift(marks_due(forest)[k % (3 * len(parts_of(forest)[0]) - 2)])
                self.assertEqual(self.orders(rounds), orders)

    def orders(self, rounds):
        rows = as_dict(rounds.shape())
        return sorted(the_order(rows, top) for top in strand_tops(rows))


class LooksAndCredit(unittest.TestCase):

    def check(self, rounds, forest, do, *things):
        """Do something, and look at its looks; forest is the one behind it."""
        looks, credit = rounds.looks(), rounds.credit()
        outcome(do, *things)
        looked = rounds.looks() - looks
        self.assertGreaterEqual(looked, 0)
        bound = 70 * halvings(3 * len(forest[0])) + 20
        self.assertLessEqual(looked, bound + credit - rounds.credit(), (forest, things))
        self.assertEqual(rounds.credit(), 2 * the_credit(rounds.shape()))

    def test_rows_and_rounds(self):
        for number, forest in enumerate([*middling_forests(), *great_forests()]):
            rounds = Rounds(forest)
            chance = random.Random(number)
            for k in range(150 if len(forest[0]) < 50 else 60):
                row = fitting_row(chance, forest, WORDS + OTHERS[:1], 1)
                forest = plain_outcome(forest, row)[0] if row[0] in WORDS else forest
                self.check(rounds, forest, rounds.do, row)
                self.check(rounds, forest, rounds.round, chance.randrange(len(forest[0])))

    def test_all_sorts_of_orders(self):
        for forest in (straight(40), star(40), comb(40), halving(40)):
            rounds = Rounds(forest)
            for p, q in forest[1]:
                for row in (("sum", p, q), ("top", q, p), ("joined", 0, q), ("spread", p, q, 1), ("put", 39 - q, 0), ("tie", 0, q), ("cut", 0, 0)):
                    forest = plain_outcome(forest, row)[0]
                    self.check(rounds, forest, rounds.do, row)

    def test_built_up_and_taken_down(self):
        for many in (2, 3, 5, 30):
            forest = (((0, "a"),), ())
            rounds = Rounds(forest)
            rows = []
            for p in range(1, many):
                rows += [("new", p, "a"), ("tie", p - 1, p)]
            rows += [("cut", p, p - 1) for p in range(1, many)] + [("tie", p, 0) for p in range(1, many)]
            for row in rows:
                forest = plain_outcome(forest, row)[0]
                self.check(rounds, forest, rounds.do, row)

    def test_what_is_refused_at_once_has_no_looks(self):
        rounds = Rounds(FORK)
        for row in (None, ("way", 0, 5), ("put", 9, 0), ("put", 0, True), (), ("cut", 0, 9)):
            outcome(rounds.do, row)
        outcome(rounds.round, 9)
        outcome(rounds.lift, 9)
        self.assertEqual(rounds.looks(), 0)

    def test_bound(self):
        self.assertEqual([rounds_bound(n) for n in (1, 2, 5, 6, 10, 100)], [90, 160, 230, 300, 300, 580])
        for n in range(1, 300):
            self.assertEqual(rounds_bound(n), 70 * halvings(3 * n) + 20)

    def test_new_puts_a_mark_alone(self):
        rounds = Rounds(FORK)
        rounds.do(("sum", 2, 4))
        kept, looks = rounds.shape(), rounds.looks()
        rounds.do(("new", 5, "a"))
        self.assertEqual(rounds.shape(), (*kept, (("point", 9), None, None, None, False)))
        self.assertEqual(rounds.looks(), looks)


class Forgetting(Keeping):

    def test_the_last_point_is_gone(self):
        rounds = Rounds(FORK)
        kept = rounds.shape()
        rounds.do(("new", 5, "a"))
        rounds.do(("tie", 9, 0))
        rounds.do(("cut", 9, 0))
        rounds.forget()
        self.check_all_told(rounds, FORK)
        self.assertEqual([row[0] for row in rounds.shape()], [row[0] for row in kept])
        self.assertEqual(outcome(rounds.lift, ("point", 9)), ("refused", "NoPlace"))
        self.assertEqual(outcome(rounds.round, 9), ("refused", "NoPoint"))
        self.assertEqual(rounds.do(("new", 6, "b")), 9)


class Untouched(unittest.TestCase):

    def test_what_is_handed_in(self):
        for forest in middling_forests():
            kept = copy.deepcopy(forest)
            rounds = Rounds(forest)
            chance = random.Random(1)
            now = forest
            for k in range(60):
                row = fitting_row(chance, now, WORDS, 1)
                same = copy.deepcopy(row)
                outcome(rounds.do, row)
                self.assertEqual(row, same)
                now = plain_outcome(now, row)[0]
            self.assertEqual(forest, kept)

    def test_two_keepers_know_nothing_of_one_another(self):
        one, other = Rounds(FORK), Rounds(FORK)
        kept = (other.shape(), other.looks(), other.credit())
        for row in (("spread", 0, None, 9), ("tie", 5, 7), ("new", 0, "a"), ("top", 0, 2), ("cut", 2, 4), ("paint", 0, "h")):
            one.do(row)
        one.round(3)
        self.assertEqual((other.shape(), other.looks(), other.credit()), kept)
        self.assertEqual(other.do(("sum", 0, None)), 23)


if __name__ == "__main__":
    unittest.main()
