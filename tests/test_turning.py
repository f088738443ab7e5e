"""Points [9] and [11]: the class Turning."""

import random
import unittest

from tests.shapemakers import chain
from tests.treebrute import halvings, the_credit, the_lift, the_order, as_dict, the_weights
from tiedcut.shapes import is_shape, shows_turned
from tiedcut.turning import Turning


def orders(many):
    """The names to lift, in all sorts of orders."""
    chance = random.Random(many)
    ends = [k // 2 if k % 2 == 0 else many - 1 - k // 2 for k in range(many)]
    found = {
        "drawn": [chance.randrange(many) for k in range(60)],
        "rising": list(range(many)) * 2,
        "falling": list(range(many))[::-1] * 2,
        "both ends by turns": ends + ends[::-1],
        "ends only": [0, many - 1] * 10,
        "one again and again": [many // 2] * 5 + [many - 1] * 5 + [0] * 5,
        "halves": [k * 37 % many for k in range(60)],
        "rising by two": list(range(0, many, 2)) + list(range(1, many, 2))}
    return found.items()


class Beginning(unittest.TestCase):

    def test_shape(self):
        self.assertEqual(Turning(1).shape(), ((0, None, None, None, False),))
        self.assertEqual(Turning(2).shape(), ((0, None, 1, None, False), (1, None, None, 0, False)))
        for many in (1, 2, 3, 10, 100):
            self.assertEqual(Turning(many).shape(), chain(range(many), "right"))

    def test_order_and_turns(self):
        for many in (1, 2, 3, 10, 100):
            turning = Turning(many)
            self.assertEqual(turning.order(), tuple(range(many)))
            self.assertEqual(turning.turns(), 0)


class ByName(unittest.TestCase):

    def test_one_name(self):
        turning = Turning(1)
        self.assertEqual(turning.lift(0), ())
        self.assertEqual(turning.turns(), 0)
        self.assertEqual(turning.order(), (0,))

    def test_the_top_is_not_turned(self):
        turning = Turning(5)
        self.assertEqual(turning.lift(0), ())
        self.assertEqual(turning.shape(), chain(range(5), "right"))

    def test_below_the_top(self):
        turning = Turning(3)
        self.assertEqual(turning.lift(1), (1,))
        shape = ((0, None, None, 1, False), (1, 0, 2, None, False), (2, None, None, 1, False))
        self.assertEqual(turning.shape(), shape)

    def test_two_alike(self):
        turning = Turning(3)
        self.assertEqual(turning.lift(2), (1, 2))
        self.assertEqual(turning.shape(), chain((2, 1, 0), "left"))
        self.assertEqual(turning.lift(0), (1, 0))
        self.assertEqual(turning.shape(), chain((0, 1, 2), "right"))
        self.assertEqual(turning.turns(), 4)

    def test_two_unlike(self):
        turning = Turning(3)
        turning.lift(2)
        turning.lift(1)
        self.assertEqual(turning.lift(0), (0,))
        self.assertEqual(turning.lift(2), (1, 2))
        turning = Turning(4)
        self.assertEqual(turning.lift(3), (2, 3, 3))
        self.assertEqual(turning.shape()[3], (3, 0, None, None, False))
        self.assertEqual(turning.shape()[0], (0, None, 2, 3, False))
        self.assertEqual(turning.lift(2), (2, 2))
        shape = ((0, None, 1, 2, False), (1, None, None, 0, False), (2, 0, 3, None, False), (3, None, None, 2, False))
        self.assertEqual(turning.shape(), shape)


class AllSorts(unittest.TestCase):

    def run_of(self, many, names):
        turning = Turning(many)
        shape, turns = turning.shape(), 0
        for x in names:
            expected, behind = the_lift(shape, x)
            told = turning.lift(x)
            self.assertIsInstance(told, tuple)
            self.assertEqual(told, expected)
            self.assertEqual(turning.shape(), behind)
            turns += len(told)
            self.assertEqual(turning.turns(), turns)
            self.assertEqual(turning.order(), tuple(range(many)))
            yield shape, x, told, behind
            shape = behind

    def test_as_told_one_by_one(self):
        for many in (1, 2, 3, 4, 7, 20):
            for name, names in orders(many):
                for ahead, x, told, behind in self.run_of(many, names):
                    self.assertIs(is_shape(behind), True)
                    self.assertEqual(behind[x][3:], (None, False))
                    self.assertIs(shows_turned(ahead, told, behind), True)
                    self.assertEqual(the_order(as_dict(behind), x), list(range(many)))

    def test_within_the_bound(self):
        for many in (1, 2, 3, 4, 7, 20, 33):
            for name, names in orders(many):
                for ahead, x, told, behind in self.run_of(many, names):
                    rise = halvings(many) - halvings(the_weights(ahead)[x])
                    bound = 6 * rise + 1 + 2 * (the_credit(ahead) - the_credit(behind))
                    self.assertLessEqual(len(told), bound, (name, many, x))

    def test_a_hundred_names(self):
        for name, names in orders(100):
            for ahead, x, told, behind in self.run_of(100, names[::3]):
                rise = halvings(100) - halvings(the_weights(ahead)[x])
                self.assertLessEqual(len(told), 6 * rise + 1 + 2 * (the_credit(ahead) - the_credit(behind)))

    def test_two_trees_know_nothing_of_one_another(self):
        one, other = Turning(9), Turning(9)
        one.lift(7)
        self.assertEqual(other.shape(), Turning(9).shape())
        self.assertEqual(other.turns(), 0)

    def test_asks_change_nothing(self):
        turning = Turning(9)
        turning.lift(6)
        kept = turning.shape()
        for k in range(3):
            turning.order()
            turning.turns()
            self.assertEqual(turning.shape(), kept)


if __name__ == "__main__":
    unittest.main()
