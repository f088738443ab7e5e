"""Points [4] and [5]: is_kind and is_forest; point [2]: whole numbers, of anything."""

import copy
import itertools
import string
import unittest

from tests.brute import ringless
from tests.makers import (
    fixed, great_forests, grown, middling_forests, nested, odd_things, plain_points, small_forests, star, straight)
from tests.rowmakers import LARGE
from tiedcut.forests import is_forest, is_kind

BENT = [None, True, False, -1, 1.0, 0.0, "0", "a", b"a", [], (), {}, [0, 1], (0, 1), ((0, 1),), object()]


def with_item(row, at, thing):
    return row[:at] + (thing,) + row[at + 1:]


class Kinds(unittest.TestCase):

    def test_the_letters_a_to_h(self):
        for letter in "abcdefgh":
            self.assertIs(is_kind(letter), True, letter)

    def test_other_letters_and_signs(self):
        for sign in (string.printable + "\u00e4\u0430\ud800").translate({ord(letter): None for letter in "abcdefgh"}):
            self.assertIs(is_kind(sign), False, sign)

    def test_longer_texts_and_the_empty_one(self):
        for text in ("", "ab", "abc", "abcdefgh", "aa", " a", "a ", "a\n", "gh", "h\x00"):
            self.assertIs(is_kind(text), False, text)

    def test_things_of_any_kind(self):
        for thing in [*odd_things(), 0, 1, 97, ("a",), ["a"], {"a"}, {"a": "a"}, b"a", LARGE]:
            self.assertIs(is_kind(thing), False)


class Forests(unittest.TestCase):

    def check_not(self, thing):
        self.assertIs(is_forest(thing), False, thing)

    def test_forests_of_all_sorts(self):
        for forest in [*middling_forests(), *great_forests()]:
            self.assertIs(is_forest(forest), True, forest)

    def test_one_point_alone_and_no_ties(self):
        self.assertIs(is_forest((((5, "a"),), ())), True)
        self.assertIs(is_forest((((0, "h"), (0, "h"), (-3, "a")), ())), True)

    def test_worths_of_thirty_figures_and_below_nought(self):
        self.assertIs(is_forest((((LARGE, "a"), (-LARGE, "b"), (0, "c")), ((0, 2), (1, 2)))), True)

    def test_every_set_of_ties_on_few_points(self):
        for many in (1, 2, 3, 4):
            pairs = list(itertools.combinations(range(many), 2))
            for size in range(len(pairs) + 1):
                for ties in itertools.combinations(pairs, size):
                    self.assertIs(is_forest((plain_points(many), ties)), ringless(many, ties), ties)

    def test_each_kind_and_no_other(self):
        for letter in string.ascii_letters:
            self.assertIs(is_forest((((1, letter),), ())), letter in "abcdefgh")

    def test_no_points(self):
        self.check_not(((), ()))
        self.check_not(((), ((0, 1),)))

    def test_a_tie_more_that_closes_a_ring(self):
        for many in (3, 4, 9, 100):
            points, ties = straight(many)
            self.check_not((points, tuple(sorted([*ties, (0, many - 1)]))))
        points, ties = star(30)
        self.check_not((points, tuple(sorted([*ties, (11, 17)]))))
        points, ties = grown(40, 3)
        for a, b in itertools.combinations(range(40), 2):
            if (a, b) not in ties:
                self.check_not((points, tuple(sorted([*ties, (a, b)]))))

    def test_a_ring_in_one_of_several_parts(self):
        self.check_not((plain_points(7), ((0, 1), (2, 3), (3, 4), (2, 4), (5, 6))))
        self.check_not((plain_points(7), ((0, 1), (2, 3), (2, 4), (3, 4), (5, 6))))

    def test_a_tie_twice(self):
        for points, ties in middling_forests():
            for tie in ties:
                self.check_not((points, tuple(sorted([*ties, tie]))))

    def test_a_tie_from_a_point_to_itself(self):
        for points, ties in small_forests(3):
            for p in range(3):
                self.check_not((points, tuple(sorted([*ties, (p, p)]))))

    def test_a_tie_turned_about(self):
        for points, ties in middling_forests():
            for at, (a, b) in enumerate(ties):
                self.check_not((points, with_item(ties, at, (b, a))))
                self.check_not((points, tuple(sorted(with_item(ties, at, (b, a))))))

    def test_a_tie_to_a_point_that_is_not_there(self):
        points, ties = straight(4)
        for tie in ((0, 4), (3, 4), (3, 5), (4, 5), (0, 100), (0, LARGE), (-1, 0), (-1, 3), (-4, -3), (-2, -1), (-LARGE, 0)):
            self.check_not((points, tuple(sorted([*ties, tie]))))
            self.check_not((points, (tie,)))
        self.check_not((((1, "a"),), ((0, 1),)))

    def test_ties_in_another_order(self):
        points, ties = grown(5, 1)
        for order in itertools.permutations(ties):
            self.assertIs(is_forest((points, order)), order == ties)

    def test_other_things_in_a_point(self):
        for thing in BENT:
            if isinstance(thing, int) and not isinstance(thing, bool):
                self.assertIs(is_forest((((thing, "a"),), ())), True)
            else:
                self.check_not((((thing, "a"),), ()))
            if thing != "a":
                self.check_not((((1, thing),), ()))
            self.check_not(((thing,), ()))
            self.check_not((((1, "a"), thing), ()))
            self.check_not((((1, "a"), (1, thing, "a")), ()))

    def test_other_things_in_a_tie(self):
        points = plain_points(4)
        for thing in BENT:
            self.check_not((points, ((thing, 3),)))
            self.check_not((points, ((0, thing),)))
            self.check_not((points, ((0, 1), (2, thing))))
            if thing != (0, 1):
                self.check_not((points, (thing,)))
            self.check_not((points, ((2, 3), thing)))
            self.check_not((points, ((0, 1, thing),)))

    def test_a_truth_where_a_whole_number_is_asked(self):
        self.check_not((((True, "a"),), ()))
        self.check_not((((False, "a"),), ()))
        self.check_not((plain_points(3), ((False, True),)))
        self.check_not((plain_points(3), ((0, True),)))
        self.check_not((plain_points(3), ((False, 1),)))
        self.check_not((plain_points(3), ((True, 2),)))

    def test_a_list_where_a_tuple_is_asked(self):
        points, ties = straight(3)
        self.check_not([points, ties])
        self.check_not((list(points), ties))
        self.check_not((points, list(ties)))
        self.check_not((points, []))
        for at in range(3):
            self.check_not((with_item(points, at, list(points[at])), ties))
        for at in range(2):
            self.check_not((points, with_item(ties, at, list(ties[at]))))

    def test_a_part_more_or_less(self):
        points, ties = straight(3)
        for thing in ((), (points,), (ties,), (points, ties, ()), (points, ties, ties), (points, ties, None), (ties, points)):
            self.check_not(thing)
        self.check_not((with_item(points, 0, (1,)), ties))
        self.check_not((with_item(points, 0, (1, "a", "a")), ties))
        self.check_not((with_item(points, 0, ("a", 1)), ties))
        self.check_not((points, ((0,), (1, 2))))
        self.check_not((points, ((0, 1, 2),)))
        self.check_not((points, ((), (0, 1))))

    def test_other_things_instead_of_points_or_ties(self):
        points, ties = straight(3)
        for thing in odd_things():
            self.check_not((thing, ties))
            if not isinstance(thing, tuple) or len(thing) > 0:
                self.check_not((points, thing))

    def test_things_of_any_kind(self):
        for thing in [*odd_things(), 0, 1, "a", "points", LARGE]:
            self.assertIs(is_forest(thing), False)

    def test_things_nested_deep(self):
        for depth in range(29):
            for kind in (tuple, list):
                self.check_not(nested(kind, depth, 1))
                right = depth == 1 and kind == tuple
                self.assertIs(is_forest((nested(kind, depth, (1, "a")), ())), right)
                self.assertIs(is_forest((plain_points(2), nested(kind, depth, (0, 1)))), right)

    def test_nothing_is_changed(self):
        points, ties = straight(3)
        for thing in [*fixed(odd_things()), (list(points), ties), (points, [[0, 1]]), [[[1, "a"]], []], {"a": [1]}]:
            kept = copy.deepcopy(thing)
            is_forest(thing)
            is_kind(thing)
            self.assertEqual(repr(thing), repr(kept))


if __name__ == "__main__":
    unittest.main()
