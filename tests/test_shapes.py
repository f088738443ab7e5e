"""Points [10] and [11]: is_shape, weights, credit_of and shows_turned."""

import itertools
import random
import unittest

from tests.makers import fixed, nested, odd_things
from tests.shapemakers import LARGE, chain, hung_chain, mark_names, number_names, plain_names, shape_of, shapes
from tests.treebrute import as_dict, halvings, is_linked, is_strand_top, the_credit, the_lift, the_turn, the_weights
from tiedcut.shapes import credit_of, is_shape, shows_turned, weights

# Not marks, though near to some.
NO_MARKS = [
    ("point",), ("point", -1), ("point", True), ("point", 1.0), ("point", "1"), ("point", 1, 2), ("Point", 1), ("point ", 1),
    ("over",), ("over", 1), ("over", 1, 2, 3), ("over", -1, 1), ("over", 1, -1), ("over", True, 2), ("over", 2, False),
    ("over", 1, None), ("over", (1,), 2), ["point", 1], ["over", 1, 2], (0, "point"), ("point", [1]), ("", 1), ("p", 1),
    (b"point", 1), ("over", "1", "2"), (("point", 1),), "point", "over", ()]


def with_row(shape, at, row):
    return shape[:at] + (row,) + shape[at + 1:]


def with_part(shape, at, place, part):
    return with_row(shape, at, shape[at][:place] + (part,) + shape[at][place + 1:])


class IsShape(unittest.TestCase):

    def yes(self, thing):
        self.assertIs(is_shape(thing), True, thing)

    def no(self, thing):
        self.assertIs(is_shape(thing), False, thing)

    def test_no_rows_at_all(self):
        self.yes(())
        self.no([])

    def test_shapes_of_all_sorts(self):
        for shape in [*shapes(), *shapes(turned=True)]:
            self.yes(shape)

    def test_a_hundred_and_more(self):
        for maker in (number_names, plain_names, mark_names):
            for seed in range(3):
                self.yes(shape_of(seed, 300, maker, True))
        for names in (range(300), [("point", p) for p in range(300)], range(-150, 150)):
            for shape in (chain(names, "left"), chain(names, "right"), hung_chain(names)):
                self.yes(shape)
                self.no(with_part(shape, 0, 3, shape[-1][0]))

    def test_named_ones(self):
        self.yes(((5, None, None, None, True),))
        self.yes(((-7, None, 5, None, False), (5, None, None, -7, True)))
        self.yes(((-7, None, None, None, False), (5, None, None, -7, True)))
        self.yes(((-7, None, None, 5, False), (0, None, None, 5, False), (5, 0, None, None, True)))
        self.yes(((("point", 3), None, None, None, False),))
        self.yes(((("over", 3, 1), None, ("point", 3), None, False), (("point", 3), None, None, ("over", 3, 1), False)))
        self.yes(((("over", LARGE, 1), None, None, None, False),))
        self.yes(((("over", 10 ** 40, 1), None, None, None, False),))

    def test_marks_rise_as_tuples_do(self):
        marks = [("over", 0, 9), ("over", 1, 0), ("over", 10, 2), ("point", 0), ("point", 2), ("point", 10)]
        rows = tuple((mark, None, None, None, False) for mark in marks)
        self.yes(rows)
        for at in range(5):
            self.no(rows[:at] + (rows[at + 1], rows[at]) + rows[at + 2:])

    def test_a_row_twice(self):
        for shape in shapes(True):
            for at in range(len(shape)):
                self.no(shape[:at] + (shape[at],) + shape[at:])
                self.no(shape + (shape[at],))

    def test_two_rows_exchanged(self):
        for shape in shapes(True):
            for at in range(len(shape) - 1):
                self.no(shape[:at] + (shape[at + 1], shape[at]) + shape[at + 2:])
            if len(shape) > 1:
                self.no(shape[::-1])

    def test_a_row_lacking(self):
        for shape in shapes():
            for at, row in enumerate(shape):
                named = any(row[0] in other[1:4] for other in shape)
                self.assertIs(is_shape(shape[:at] + shape[at + 1:]), not named)

    def test_another_name_in_a_place(self):
        """Whatever stands as left, right or above one, it is a shape just where the document's words say so."""
        chance = random.Random(1)
        for shape in shapes(most=9):
            names = [row[0] for row in shape] + [None]
            for at in range(len(shape)):
                for place in (1, 2, 3):
                    for name in names:
                        thing = with_part(shape, at, place, name)
                        self.assertIs(is_shape(thing), is_linked(thing), thing)
                    missing = 999 if isinstance(shape[at][0], int) else ("point", 999)
                    self.no(with_part(shape, at, place, missing))
                others = with_part(with_part(shape, at, 1, chance.choice(names)), at, 2, chance.choice(names))
                self.assertIs(is_shape(others), is_linked(others), others)

    def test_left_and_right_alike(self):
        for shape in shapes():
            for at, (name, left, right, above, turned) in enumerate(shape):
                if left is not None:
                    self.no(with_row(shape, at, (name, left, left, above, turned)))
                if right is not None:
                    self.no(with_row(shape, at, (name, right, right, above, turned)))

    def test_a_ring_of_aboves(self):
        self.no(((0, None, None, 0, False),))
        self.no(((0, 0, None, 0, False),))
        self.no(((0, None, None, 1, False), (1, None, None, 0, False)))
        self.no(((0, 1, None, 1, False), (1, None, 0, 0, False)))
        for names in (range(2), range(3), range(9), [("point", p) for p in range(9)]):
            for shape in (chain(names, "left"), chain(names, "right"), hung_chain(names)):
                for name in names:
                    self.no(with_part(shape, 0, 3, name))

    def test_all_rows_of_two_names(self):
        parts = [list(itertools.product((None, 0, 1), repeat=3)) for k in range(2)]
        for one, other in itertools.product(*parts):
            thing = ((0, *one, False), (1, *other, True))
            self.assertIs(is_shape(thing), is_linked(thing), thing)

    def test_rows_of_three_names_by_chance(self):
        chance = random.Random(2)
        names = (-3, 0, 8)
        found = 0
        for k in range(30000):
            thing = tuple((name, *(chance.choice((None, None, *names)) for place in range(3)), False) for name in names)
            found += is_linked(thing)
            self.assertIs(is_shape(thing), is_linked(thing), thing)
        self.assertGreater(found, 50)

    def test_a_name_of_another_kind(self):
        for shape in shapes(most=5):
            for at in range(len(shape)):
                for thing in [*NO_MARKS, None, True, False, 1.0, "0", "a", b"0", (0,), (0, 1), ("over", 0), [0], {}, 1j]:
                    self.no(with_part(shape, at, 0, thing))
                    for place in (1, 2, 3):
                        if thing is not None:
                            self.no(with_part(shape, at, place, thing))

    def test_names_of_two_kinds(self):
        row = (7, None, None, None, False)
        other = (("point", 7), None, None, None, False)
        self.yes((row,))
        self.yes((other,))
        self.no((row, other))
        self.no((other, row))
        self.no(((7, None, ("point", 7), None, False), (("point", 7), None, None, 7, False)))
        self.no(((7, None, None, ("point", 7), False),))

    def test_a_truth_for_a_number(self):
        self.no(((False, None, None, None, False),))
        self.no(((True, None, None, None, False),))
        shape = ((0, None, 1, None, False), (1, None, None, 0, False))
        self.yes(shape)
        self.no(with_part(shape, 0, 0, False))
        self.no(with_part(shape, 0, 2, True))
        self.no(with_part(shape, 1, 3, False))
        self.no(with_part(shape, 1, 0, True))
        marks = ((("over", 0, 1), None, ("point", 1), None, False), (("point", 1), None, None, ("over", 0, 1), False))
        self.yes(marks)
        self.no(with_part(marks, 0, 2, ("point", True)))
        self.no(with_part(marks, 1, 3, ("over", False, 1)))
        self.no(with_part(marks, 1, 0, ("point", True)))

    def test_a_number_for_a_truth(self):
        for shape in shapes(most=9):
            for at in range(len(shape)):
                for thing in (0, 1, None, "", "True", 0.0, (), [], (True,)):
                    self.no(with_part(shape, at, 4, thing))
                self.yes(with_part(shape, at, 4, True))

    def test_rows_of_other_lengths_and_lists(self):
        for shape in shapes(most=9):
            for at, row in enumerate(shape):
                for other in ((), row[:1], row[:4], row + (False,), row + row, list(row), set(row[4:]), None, row[0], "row"):
                    self.no(with_row(shape, at, other))
            if shape:
                self.no(list(shape))
                self.no(shape[0])
                self.no((shape,))
                self.no(dict.fromkeys(shape))

    def test_things_of_any_kind(self):
        for thing in odd_things():
            self.assertIs(is_shape(thing), isinstance(thing, tuple) and len(thing) == 0)
            self.assertIs(is_shape((thing,)), False)
            for place in range(5):
                row = (0, None, None, None, False)
                expected = (thing is None and 1 <= place <= 3) or (place == 4 and isinstance(thing, bool))
                self.assertIs(is_shape((row[:place] + (thing,) + row[place + 1:],)), expected)
        row = (0, None, None, None, False)
        for depth in (1, 2, 29):
            self.no(nested(tuple, depth, row) if depth > 1 else (nested(list, 1, row),))
            self.no((nested(tuple, depth, row),))

    def test_nothing_is_changed(self):
        for thing in [*fixed(odd_things()), [[0, None, None, None, False]], ([0, None, None, None, False],)]:
            kept = repr(thing)
            is_shape(thing)
            self.assertEqual(repr(thing), kept)


class Weights(unittest.TestCase):

    def test_named_ones(self):
        self.assertEqual(weights(()), {})
        self.assertEqual(credit_of(()), 0)
        shape = ((-7, None, None, 5, False), (0, None, None, 5, False), (5, 0, None, None, True), (9, None, None, None, False))
        self.assertEqual(weights(shape), {-7: 1, 0: 1, 5: 3, 9: 1})
        self.assertEqual(credit_of(shape), 1)
        self.assertEqual(weights(chain(range(4), "right")), {0: 4, 1: 3, 2: 2, 3: 1})
        self.assertEqual(credit_of(chain(range(4), "right")), 2 + 1 + 1 + 0)
        self.assertEqual(credit_of(hung_chain(range(8))), 3 + 2 * 4 + 1 * 2)

    def test_by_another_reckoning(self):
        for shape in [*shapes(), *shapes(True)]:
            found = weights(shape)
            self.assertIsInstance(found, dict)
            self.assertEqual(found, the_weights(shape))
            self.assertEqual(credit_of(shape), the_credit(shape))

    def test_a_hundred_and_more(self):
        for maker in (number_names, plain_names, mark_names):
            shape = shape_of(4, 150, maker, True)
            self.assertEqual(weights(shape), the_weights(shape))
            self.assertEqual(credit_of(shape), the_credit(shape))
        for shape in (chain(range(300), "left"), hung_chain(range(300))):
            self.assertEqual(weights(shape), {k: 300 - k for k in range(300)})
            self.assertEqual(credit_of(shape), sum(halvings(k + 1) for k in range(300)))


class ShowsTurned(unittest.TestCase):

    def turned_by_chance(self, shape, chance, many):
        """(names, shape): as many names turned as can be, up to so many."""
        names = []
        for k in range(many):
            rows = as_dict(shape)
            free = [x for x in rows if not is_strand_top(rows, x)]
            if free:
                names.append(chance.choice(free))
                shape = the_turn(shape, names[-1])
        return tuple(names), shape

    def expected(self, ahead, names, behind):
        for name in names:
            rows = as_dict(ahead)
            if name not in rows or is_strand_top(rows, name):
                return False
            ahead = the_turn(ahead, name)
        return ahead == behind

    def test_named_ones(self):
        ahead = chain((0, 1, 2), "right")
        behind = chain((2, 1, 0), "left")
        self.assertIs(shows_turned(ahead, (1, 2), behind), True)
        self.assertIs(shows_turned(ahead, (2, 2), behind), False)
        self.assertIs(shows_turned(ahead, (2, 1), behind), False)
        self.assertIs(shows_turned(ahead, (), ahead), True)
        self.assertIs(shows_turned(ahead, (), behind), False)
        self.assertIs(shows_turned(ahead, (0,), ahead), False)
        self.assertIs(shows_turned(ahead, (1, 0), ahead), True)
        self.assertIs(shows_turned((), (), ()), True)
        self.assertIs(shows_turned((), (0,), ()), False)
        self.assertIs(shows_turned(ahead, (), ()), False)
        self.assertIs(shows_turned((), (), ahead), False)

    def test_others_stay_below_whom_they_are(self):
        ahead = ((0, None, 1, 3, False), (1, None, None, 0, False), (2, None, None, 0, False), (3, None, None, None, False))
        behind = ((0, None, None, 1, False), (1, 0, None, 3, False), (2, None, None, 0, False), (3, None, None, None, False))
        self.assertIs(shows_turned(ahead, (1,), behind), True)
        self.assertIs(shows_turned(behind, (0,), ahead), True)
        for other in (((2, None, None, 1, False),), ((2, None, None, 3, False),), ((2, None, None, None, False),)):
            self.assertIs(shows_turned(ahead, (1,), behind[:2] + other + behind[3:]), False)
        for x in (0, 2, 3):
            self.assertIs(shows_turned(ahead, (x,), behind), False)
            self.assertIs(shows_turned(ahead, (x,), ahead), False)

    def test_turned_one_by_one(self):
        chance = random.Random(3)
        for shape in shapes():
            for many in (0, 1, 2, 7):
                names, behind = self.turned_by_chance(shape, chance, many)
                self.assertIs(shows_turned(shape, names, behind), True)
                if behind != shape:
                    self.assertIs(shows_turned(behind, names, shape), self.expected(behind, names, shape))
                    self.assertIs(shows_turned(shape, names, shape), False)
                    self.assertIs(shows_turned(shape, (), behind), False)

    def test_a_turn_and_its_turn_back(self):
        for shape in shapes():
            rows = as_dict(shape)
            for name, left, right, above, turned in shape:
                if is_strand_top(rows, name):
                    self.assertIs(shows_turned(shape, (name,), shape), False)
                else:
                    self.assertIs(shows_turned(shape, (name, above), shape), True)
                    self.assertIs(shows_turned(shape, (name, above) * 5, shape), True)
                    self.assertIs(shows_turned(the_turn(shape, name), (above,), shape), True)

    def test_lifts(self):
        for shape in shapes():
            for row in shape[::3]:
                names, behind = the_lift(shape, row[0])
                self.assertIs(shows_turned(shape, names, behind), True)

    def test_with_one_otherwise(self):
        chance = random.Random(4)
        for shape in shapes(most=9)[1:]:
            names, behind = self.turned_by_chance(shape, chance, 5)
            every = [row[0] for row in shape] + [-999, ("point", 999), LARGE]
            others = [names + (name,) for name in every]
            for at in range(len(names)):
                others.append(names[:at] + names[at + 1:])
                others += [names[:at] + (name,) + names[at:] for name in every]
                others += [names[:at] + (name,) + names[at + 1:] for name in every]
                others.append(names[:at] + names[at:at + 2][::-1] + names[at + 2:])
            for other in others:
                self.assertIs(shows_turned(shape, other, behind), self.expected(shape, other, behind), (shape, other, behind))

    def test_another_shape_behind(self):
        chance = random.Random(5)
        for shape in shapes(most=17):
            names, behind = self.turned_by_chance(shape, chance, 3)
            for other in (shape[1:], shape[:-1], behind[:-1], shape_of(99, 5), ()):
                if other != behind:
                    self.assertIs(shows_turned(shape, names, other), False)

    def test_lists_texts_and_truths(self):
        shape = chain((0, 1, 2), "right")
        once, twice = the_turn(shape, 1), the_turn(the_turn(shape, 1), 2)
        self.assertIs(shows_turned(shape, (1,), once), True)
        for thing in ([1], "1", 1, (True,), True, (1.0,), ("1",), ([1],), ((1,),), {1}, {1: 1}, (None,), (1, None), None, b"\x01"):
            self.assertIs(shows_turned(shape, thing, once), False, thing)
        for thing in ((True, 2), [1, 2], (1, [2]), "12", range(1, 3), (1, 2.0)):
            self.assertIs(shows_turned(shape, thing, twice), False, thing)
        marks = chain([("point", 1), ("point", 2), ("over", 1, 2)], "left")
        behind = the_turn(marks, ("point", 2))
        self.assertIs(shows_turned(marks, (("point", 2),), behind), True)
        for thing in (("point", 2), (["point", 2],), [("point", 2)], (("point", 2.0),), (("point", "2"),), ((("point", 2),),), (2,)):
            self.assertIs(shows_turned(marks, thing, behind), False, thing)

    def test_things_of_any_kind(self):
        for shape in (chain((0, 1, 2), "right"), chain([("point", 1), ("point", 2)], "left"), ()):
            for thing in odd_things():
                same = isinstance(thing, tuple) and len(thing) == 0
                self.assertIs(shows_turned(shape, thing, shape), same)
                self.assertIs(shows_turned(shape, (thing,), shape), False)
                self.assertIs(shows_turned(shape, (1, thing), shape), False)

    def test_nothing_is_changed(self):
        shape = chain((0, 1, 2), "right")
        kept = repr(shape)
        for names in ((1, 2), [1, 2], (1, [2]), [[]]):
            same = repr(names)
            shows_turned(shape, names, shape)
            weights(shape)
            self.assertEqual((repr(shape), repr(names)), (kept, same))


if __name__ == "__main__":
    unittest.main()
