"""Points [12], [13] and [15]: ties_of_shape, untwisted, stepped and ways_bound."""

import random
import unittest

from tests.makers import fixed, nested, odd_things
from tests.shapemakers import LARGE, chain, hung_chain, number_names, plain_names, shape_of, shapes
from tests.treebrute import as_dict, halvings, strand_tops, the_leading, the_order, the_step, the_ties, the_untwisted, the_weights
from tiedcut.forests import is_forest
from tiedcut.shapes import credit_of, is_shape, weights
from tiedcut.wayshapes import stepped, ties_of_shape, untwisted, ways_bound

MAKERS = (number_names, plain_names)


def twisted(shape, chance):
    """The same shape written otherwise: names turned by chance, left and right exchanged where they are so."""
    flags = {row[0]: chance.random() < 0.5 for row in shape}
    with_flags = tuple(row[:4] + (flags[row[0]],) for row in shape)
    # To exchange twice is as never: what the flags would exchange is exchanged ahead.
    return tuple(row[:4] + (flags[row[0]],) for row in the_untwisted(with_flags))


class Twisted(unittest.TestCase):

    def test_named_ones(self):
        shape = ((0, 1, 2, None, True), (1, 3, 4, 0, False), (2, None, 5, 0, True), (3, None, None, 1, True),
                 (4, None, None, 1, False), (5, None, None, 2, False), (6, 7, None, 0, False), (7, None, None, 6, True))
        plain = ((0, 2, 1, None, False), (1, 4, 3, 0, False), (2, None, 5, 0, False), (3, None, None, 1, False),
                 (4, None, None, 1, False), (5, None, None, 2, False), (6, 7, None, 0, False), (7, None, None, 6, False))
        self.assertEqual(untwisted(shape), plain)
        self.assertEqual(the_order(as_dict(shape), 0), [2, 5, 0, 4, 1, 3])
        self.assertEqual(ties_of_shape(shape), ((0, 4), (0, 5), (0, 7), (1, 3), (1, 4), (2, 5), (6, 7)))
        self.assertEqual(ties_of_shape(plain), ties_of_shape(shape))

    def test_a_turned_name_does_not_turn_what_hangs_on_it(self):
        shape = ((0, None, None, None, True), (1, 2, None, 0, False), (2, None, None, 1, False))
        self.assertEqual(untwisted(shape), ((0, None, None, None, False), *shape[1:]))
        self.assertEqual(ties_of_shape(shape), ((0, 2), (1, 2)))

    def test_no_rows_and_one(self):
        self.assertEqual(untwisted(()), ())
        self.assertEqual(ties_of_shape(()), ())
        self.assertEqual(untwisted(((4, None, None, None, True),)), ((4, None, None, None, False),))
        self.assertEqual(ties_of_shape(((4, None, None, None, True),)), ())

    def test_strands(self):
        names = (4, 1, 3, 0, 2)
        ties = ((0, 2), (0, 3), (1, 3), (1, 4))
        for shape in (chain(names, "right"), chain(names[::-1], "left"), hung_chain(names), hung_chain(names[::-1])):
            self.assertEqual(ties_of_shape(shape), ties)
            every = tuple(row[:4] + (True,) for row in shape)
            once = tuple(row[:4] + (row[3] is None,) for row in shape)
            self.assertEqual(ties_of_shape(once), ties)
            self.assertEqual(ties_of_shape(every), the_ties(every))

    def test_written_without_turned_names(self):
        chance = random.Random(1)
        for shape in shapes(False, MAKERS):
            for k in range(3):
                other = twisted(shape, chance)
                self.assertEqual(untwisted(other), shape)
                self.assertEqual(ties_of_shape(other), ties_of_shape(shape))
                self.assertEqual(weights(other), weights(shape))

    def test_by_another_reckoning(self):
        for shape in shapes(True, MAKERS):
            plain = untwisted(shape)
            self.assertEqual(plain, the_untwisted(shape))
            self.assertIs(is_shape(plain), True)
            self.assertEqual(untwisted(plain), plain)
            self.assertEqual(ties_of_shape(shape), the_ties(shape))
            self.assertEqual(credit_of(shape), credit_of(plain))

    def test_ties_are_a_forest_with_a_tie_less_than_names_for_each_top(self):
        for many in (1, 2, 9, 40, 100):
            for seed in range(4):
                shape = shape_of(seed, many, plain_names, True)
                ties = ties_of_shape(shape)
                self.assertIs(is_forest((((0, "a"),) * many, ties)), True)
                self.assertEqual(len(ties), many - sum(row[3] is None for row in shape))

    def test_weight_is_how_many_points_hang_on_it(self):
        for shape in shapes(True, MAKERS, 17):
            self.assertEqual(weights(shape), the_weights(shape))

    def test_great_ones(self):
        for shape in (chain(range(300), "left"), chain(range(300), "right"), hung_chain(range(300))):
            self.assertEqual(ties_of_shape(shape), tuple((k, k + 1) for k in range(299)))
            self.assertEqual(untwisted(shape), shape)


class Stepped(unittest.TestCase):

    def expected(self, shape, steps):
        names = {row[0] for row in shape}
        for word, x in steps:
            shape = the_step(shape, (word, x)) if word in ("turn", "let", "hang") and x in names else None
            if shape is None:
                return None
        return shape

    def test_no_steps(self):
        for shape in shapes(False, MAKERS):
            self.assertEqual(stepped(shape, ()), shape)

    def test_turn(self):
        shape = chain((0, 1, 2), "right")
        self.assertEqual(stepped(shape, (("turn", 1),)), ((0, None, None, 1, False), (1, 0, 2, None, False), (2, None, None, 1, False)))
        self.assertEqual(stepped(shape, (("turn", 1), ("turn", 0))), shape)
        self.assertIsNone(stepped(shape, (("turn", 0),)))
        self.assertIsNone(stepped(shape, (("turn", 1), ("turn", 1))))
        self.assertIsNone(stepped(shape, (("turn", 3),)))
        self.assertIsNone(stepped(hung_chain((0, 1)), (("turn", 1),)))

    def test_let(self):
        shape = chain((0, 1, 2), "right")
        behind = ((0, None, None, None, False), (1, None, 2, 0, False), (2, None, None, 1, False))
        self.assertEqual(stepped(shape, (("let", 0),)), behind)
        self.assertEqual(stepped(shape, (("let", 0), ("let", 1))), hung_chain((0, 1, 2)))
        self.assertIsNone(stepped(shape, (("let", 1),)))
        self.assertIsNone(stepped(shape, (("let", 2),)))

    def test_let_of_nothing(self):
        shape = chain((2, 1, 0), "left")
        self.assertEqual(stepped(shape, (("let", 2),)), shape)
        self.assertEqual(stepped(shape, (("let", 2),) * 4), shape)
        self.assertIsNone(stepped(shape, (("let", 1),)))

    def test_hang(self):
        shape = hung_chain((0, 1, 2))
        behind = ((0, None, 1, None, False), (1, None, None, 0, False), (2, None, None, 1, False))
        self.assertEqual(stepped(shape, (("hang", 1),)), behind)
        self.assertEqual(stepped(shape, (("hang", 2), ("hang", 1))), chain((0, 1, 2), "right"))
        self.assertIsNone(stepped(shape, (("hang", 1), ("hang", 2))), "1 is no top then")
        self.assertIsNone(stepped(shape, (("hang", 0),)), "nobody is above it")
        self.assertIsNone(stepped(behind, (("hang", 1),)), "it is no top")

    def test_hang_where_something_is_behind(self):
        shape = ((0, None, 1, None, False), (1, None, None, 0, False), (2, None, None, 0, False))
        self.assertIsNone(stepped(shape, (("hang", 2),)))
        self.assertEqual(stepped(shape, (("let", 0), ("hang", 2))), ((0, None, 2, None, False), (1, None, None, 0, False), (2, None, None, 0, False)))
        left = ((0, 1, None, None, False), (1, None, None, 0, False), (2, None, None, 0, False))
        self.assertEqual(stepped(left, (("hang", 2),)), ((0, 1, 2, None, False), (1, None, None, 0, False), (2, None, None, 0, False)))

    def test_each_single_step(self):
        for shape in shapes(False, MAKERS, 17):
            for row in shape:
                for word in ("turn", "let", "hang"):
                    step = (word, row[0])
                    self.assertEqual(stepped(shape, (step,)), the_step(shape, step), (shape, step))

    def test_rows_of_steps(self):
        chance = random.Random(2)
        found = 0
        for shape in shapes(False, MAKERS, 17)[1:]:
            for k in range(10):
                steps, now = [], shape
                for step in range(6):
                    can = [(word, row[0]) for word in ("turn", "let", "hang") for row in shape if the_step(now, (word, row[0]))]
                    steps.append(chance.choice(can) if chance.random() < 0.9 else (chance.choice(("turn", "let", "hang")), shape[0][0]))
                    now = the_step(now, steps[-1]) or now
                expected = self.expected(shape, steps)
                found += expected is not None
                self.assertEqual(stepped(shape, tuple(steps)), expected)
        self.assertGreater(found, 100)

    def test_leadings(self):
        for shape in shapes(False, MAKERS, 40):
            for row in shape[::4]:
                steps, behind = the_leading(shape, row[0])
                self.assertEqual(stepped(shape, steps), behind)
                self.assertEqual(ties_of_shape(behind), ties_of_shape(shape))

    def test_a_step_that_is_none(self):
        shape = chain((0, 1, 2), "right")
        right = (("turn", 1), ("let", 1), ("hang", 2))
        self.assertIsNotNone(stepped(shape, right))
        bad = [(), ("turn",), ("turn", 1, 1), ["turn", 1], ("Turn", 1), ("turn ", 1), ("", 1), (1, "turn"), ("turn", "1"), ("turn", True),
               ("turn", 1.0), ("turn", None), ("turn", (1,)), ("turn", [1]), (None, 1), (b"turn", 1), ("lift", 1), ("turn", -1), ("turn", LARGE),
               ("let", False), ("hang", True), ("turn", ("point", 1)), (("turn", 1),), "turn", 1, {"turn": 1}, ("cut", 1), ("put", 1)]
        for thing in bad + odd_things():
            for at in range(4):
                self.assertIsNone(stepped(shape, right[:at] + (thing,) + right[at:]), thing)
            for word in ("turn", "let", "hang"):
                if not isinstance(thing, int) or isinstance(thing, bool):
                    self.assertIsNone(stepped(shape, ((word, thing),)), thing)
            if not isinstance(thing, str):
                self.assertIsNone(stepped(shape, ((thing, 1),)))

    def test_no_tuple(self):
        shape = chain((0, 1, 2), "right")
        for thing in [[("turn", 1)], [], "", "turn", None, 0, {}, {("turn", 1): 0}, {("turn", 1)}, ("turn", 1), iter(())]:
            self.assertIsNone(stepped(shape, thing), thing)
        for thing in odd_things():
            self.assertEqual(stepped(shape, thing), shape if isinstance(thing, tuple) and not len(thing) else None)
        self.assertIsNone(stepped(shape, nested(tuple, 29, ("turn", 1))))

    def test_nothing_is_changed(self):
        shape = chain((0, 1, 2), "right")
        kept = repr(shape)
        for steps in [*fixed(odd_things()), [["turn", 1]], (("turn", 1), ["let", 1]), (("turn", 1), ("let", 1))]:
            same = repr(steps)
            stepped(shape, steps)
            untwisted(shape)
            ties_of_shape(shape)
            self.assertEqual((repr(shape), repr(steps)), (kept, same))


class Bound(unittest.TestCase):

    def test_named_ones(self):
        self.assertEqual(ways_bound(1), 40)
        self.assertEqual(ways_bound(2), 8 * 41)
        self.assertEqual(ways_bound(3), 8 * 41)
        self.assertEqual(ways_bound(100), 8 * (36 * 6 + 5))

    def test_each_one(self):
        for n in range(1, 300):
            self.assertEqual(ways_bound(n), 8 * (36 * halvings(n) + 5))


class Oracle(unittest.TestCase):
    """The tests' own reckoning is looked at, too."""

    def test_each_name_is_in_the_order_of_one_strand(self):
        for shape in shapes(True, MAKERS):
            rows = as_dict(shape)
            names = [name for top in strand_tops(rows) for name in the_order(rows, top)]
            self.assertEqual(sorted(names), sorted(rows))


if __name__ == "__main__":
    unittest.main()
