"""Points [3] (c), [14] and [15]: how a Ways leads points up, its looks and its credit."""

import random
import unittest

from tests.keeping import fitting_row, outcome, plain_outcome
from tests.makers import FORK, comb, great_forests, grown, halving, middling_forests, odd_things, star, straight
from tests.rowmakers import FORMS, LARGE
from tests.treebrute import halvings, the_credit, the_leading, the_untwisted
from tiedcut.shapes import weights
from tiedcut.ways import Ways
from tiedcut.wayshapes import stepped, ties_of_shape, untwisted, ways_bound

WORDS = tuple(word for word in FORMS if word not in ("spread", "top", "least"))


def orders(many):
    """Points to lead up, in all sorts of orders."""
    chance = random.Random(many)
    rising = list(range(many))
    ends = [k // 2 if k % 2 == 0 else many - 1 - k // 2 for k in rising]
    return [rising, rising[::-1], ends, ends[::-1], [many - 1, 0] * 4, [many // 2] * 4, chance.sample(rising, many)]


class LeadUp(unittest.TestCase):

    def check(self, ways, p):
        """Lead p up, and look at all that is promised of it."""
        ahead, looks = ways.shape(), ways.looks()
        steps = ways.lead_up(p)
        behind = ways.shape()
        self.assertIsInstance(steps, tuple)
        self.assertEqual(steps, the_leading(the_untwisted(ahead), p)[0])
        self.assertEqual(stepped(untwisted(ahead), steps), untwisted(behind))
        self.assertEqual(ties_of_shape(behind), ties_of_shape(ahead))
        looked = ways.looks() - looks
        self.assertEqual(looked, sum(word in ("turn", "let") for word, x in steps))
        spent = 6 * (the_credit(ahead) - the_credit(behind))
        self.assertLessEqual(looked, 36 * halvings(len(ahead)) + 5 + spent)
        self.check_on_top(behind, p)
        return steps

    def check_on_top(self, shape, p):
        """p has nobody above it, and nothing behind it in its strand."""
        row = [row for row in untwisted(shape) if row[0] == p][0]
        self.assertEqual(row[2:4], (None, None))

    def test_one_point(self):
        ways = Ways((((1, "a"),), ()))
        self.assertEqual(ways.lead_up(0), (("let", 0),))
        self.assertEqual(ways.looks(), 1)

    def test_twice(self):
        for forest in middling_forests():
            ways = Ways(forest)
            for p in range(len(forest[0])):
                self.check(ways, p)
                self.assertEqual(self.check(ways, p), (("let", p),))

    def test_all_sorts_of_orders(self):
        for forest in [*middling_forests(), straight(33), star(33), comb(33), halving(33), grown(33, 2)]:
            for names in orders(len(forest[0])):
                ways = Ways(forest)
                for p in names:
                    self.check(ways, p)

    def test_a_hundred_points(self):
        for forest in great_forests():
            for names in orders(100):
                ways = Ways(forest)
                for p in names[::4]:
                    self.check(ways, p)

    def test_between_rows(self):
        """Strands are turned about then, and names are turned."""
        twisted = 0
        for number, forest in enumerate(middling_forests()):
            ways = Ways(forest)
            chance = random.Random(number)
            for k in range(60):
                row = fitting_row(chance, forest, WORDS)
                outcome(ways.do, row)
                forest = plain_outcome(forest, row)[0]
                twisted += any(row[4] for row in ways.shape())
                self.check(ways, chance.randrange(len(forest[0])))
        self.assertGreater(twisted, 100)

    def test_what_is_no_point_there(self):
        ways = Ways(FORK)
        kept = (ways.shape(), ways.looks())
        for thing in [*odd_things(), 9, 10, -1, -9, LARGE, -LARGE, "0", (0,), [0], ("point", 0), 0.5]:
            self.assertEqual(outcome(ways.lead_up, thing), ("refused", "NoPoint"))
        self.assertEqual((ways.shape(), ways.looks()), kept)
        self.assertEqual(outcome(ways.lead_up, 8)[0], "told")

    def test_nothing_is_told_otherwise_behind_it(self):
        ways = Ways(FORK)
        for p in range(9):
            ways.lead_up(p)
            self.assertEqual(ways.do(("way", 0, 5)), (0, 2, 4, 5))
            self.assertEqual(ways.do(("sum", 4, 2)), 15)
            self.assertIs(ways.do(("joined", 0, 6)), False)


class LooksAndCredit(unittest.TestCase):

    def check_row(self, ways, forest, row):
        """Do a row, and look at its looks: the forest behind it."""
        looks, credit = ways.looks(), ways.credit()
        outcome(ways.do, row)
        forest = plain_outcome(forest, row)[0]
        looked = ways.looks() - looks
        self.assertGreaterEqual(looked, 0)
        self.assertLessEqual(looked, ways_bound(len(forest[0])) + credit - ways.credit(), (forest, row))
        self.assertEqual(ways.credit(), 6 * the_credit(ways.shape()))
        return forest

    def test_at_the_beginning(self):
        for forest in [*middling_forests(), *great_forests()]:
            ways = Ways(forest)
            self.assertEqual(ways.looks(), 0)
            self.assertEqual(ways.credit(), 6 * the_credit(ways.shape()))

    def test_rows_of_all_words(self):
        for number, forest in enumerate(middling_forests()):
            ways = Ways(forest)
            chance = random.Random(number)
            for k in range(200):
                forest = self.check_row(ways, forest, fitting_row(chance, forest, WORDS, 1))

    def test_a_hundred_points(self):
        for number, forest in enumerate(great_forests()):
            ways = Ways(forest)
            chance = random.Random(number)
            for k in range(200):
                forest = self.check_row(ways, forest, fitting_row(chance, forest, WORDS, 1))

    def test_ways_from_end_to_end(self):
        for forest in (straight(100), comb(100), star(100)):
            ways = Ways(forest)
            for k in range(50):
                for row in (("way", k, 99 - k), ("kth", 0, 99, k), ("add", 99, k, 1), ("meet", 0, 99, k), ("sum", k, k + 1), ("most", 0, 99)):
                    self.check_row(ways, forest, row)

    def test_refused_ones(self):
        for forest in (FORK, *great_forests()[:3]):
            ways = Ways(forest)
            for k in range(1, 40):
                for row in (("tie", k % 9, 0), ("tie", 0, 0), ("cut", 0, k % 9), ("kth", 0, k % 9, LARGE), ("sum", 0, k % 9), ("way", 7, k % 9),
                            ("top", 0, None), None, ("put", 100, 0), ("meet", 0, k % 9, 7), ("add", 7, k % 9, 0)):
                    forest = self.check_row(ways, forest, row)

    def test_built_up_and_taken_down(self):
        for many in (2, 3, 5, 40):
            forest = (((0, "a"),), ())
            ways = Ways(forest)
            for p in range(1, many):
                forest = self.check_row(ways, forest, ("new", p, "a"))
                forest = self.check_row(ways, forest, ("tie", p - 1, p))
            for p in range(1, many):
                forest = self.check_row(ways, forest, ("cut", p, p - 1))
            self.assertEqual(ways.credit(), 0)
            for p in range(1, many):
                forest = self.check_row(ways, forest, ("tie", p, 0))

    def test_what_is_refused_at_once_has_no_looks(self):
        ways = Ways(FORK)
        for row in (None, ("top", 0, None), ("put", 9, 0), ("put", 0, True), (), ("tie", 0, 9)):
            outcome(ways.do, row)
        self.assertEqual(ways.looks(), 0)

    def test_new_puts_a_name_alone(self):
        ways = Ways(FORK)
        ways.do(("way", 0, 5))
        kept, looks = ways.shape(), ways.looks()
        ways.do(("new", 5, "a"))
        self.assertEqual(ways.shape(), (*kept, (9, None, None, None, False)))
        self.assertEqual(ways.looks(), looks)

    def test_a_tie_hangs_one_top_below_another(self):
        for forest in middling_forests():
            loose = [(a, b) for a in range(len(forest[0])) for b in range(len(forest[0])) if plain_outcome(forest, ("joined", a, b))[1][1] is False]
            for a, b in loose[::5]:
                ways = Ways(forest)
                ways.do(("tie", a, b))
                rows = {row[0]: row for row in ways.shape()}
                self.assertIn((a, b), [(row[0], row[3]) for row in rows.values()] + [(row[3], row[0]) for row in rows.values()])
                top = a if rows[a][3] is None else b
                below = b if top == a else a
                self.assertNotIn(below, rows[top][1:3])
                self.assertEqual(weights(ways.shape())[top], plain_outcome(forest, ("size", a, None))[1][1] + plain_outcome(forest, ("size", b, None))[1][1])


if __name__ == "__main__":
    unittest.main()
