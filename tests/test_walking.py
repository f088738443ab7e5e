"""Points [3] (b), (e), [4] and [5]: ways, parts, sides, and where three points meet."""

import copy
import itertools
import random
import unittest

from tests.brute import the_meeting, the_part, the_side, the_way
from tests.makers import FORK, great_forests, middling_forests, small_forests
from tiedcut.walking import meet_of, part_of, side_of, way_of


def little_forests():
    return [forest for many in (1, 2, 3, 4, 5) for forest in small_forests(many)]


def numbers_of(forest):
    return range(len(forest[0]))


def both_ways_about(forest):
    return [pair for a, b in forest[1] for pair in ((a, b), (b, a))]


class Ways(unittest.TestCase):

    def test_named_ones(self):
        self.assertEqual(way_of(FORK, 0, 5), (0, 2, 4, 5))
        self.assertEqual(way_of(FORK, 5, 0), (5, 4, 2, 0))
        self.assertEqual(way_of(FORK, 3, 1), (3, 4, 2, 1))
        self.assertEqual(way_of(FORK, 8, 6), (8, 6))
        self.assertEqual(way_of(FORK, 7, 7), (7,))
        self.assertIsNone(way_of(FORK, 0, 6))
        self.assertIsNone(way_of(FORK, 7, 0))

    def test_every_pair_of_little_and_middling_forests(self):
        for forest in [*little_forests(), *middling_forests()]:
            for a, b in itertools.product(numbers_of(forest), repeat=2):
                self.assertEqual(way_of(forest, a, b), the_way(forest, a, b), (forest, a, b))

    def test_the_way_back(self):
        for forest in [*little_forests(), *middling_forests(), *great_forests()]:
            for a, b in itertools.islice(itertools.combinations(numbers_of(forest), 2), 0, None, 7):
                there, back = way_of(forest, a, b), way_of(forest, b, a)
                self.assertEqual(there, None if back is None else back[::-1])

    def test_of_a_point_and_itself(self):
        for forest in [*middling_forests(), *great_forests()]:
            for a in numbers_of(forest):
                self.assertEqual(way_of(forest, a, a), (a,))

    def test_a_hundred_points(self):
        chance = random.Random(5)
        for forest in great_forests():
            for k in range(40):
                a, b = chance.randrange(100), chance.randrange(100)
                self.assertEqual(way_of(forest, a, b), the_way(forest, a, b))

    def test_told_are_tuples(self):
        self.assertIsInstance(way_of(FORK, 0, 5), tuple)
        self.assertIsInstance(part_of(FORK, 0), tuple)
        self.assertIsInstance(side_of(FORK, 2, 4), tuple)


class Parts(unittest.TestCase):

    def test_named_ones(self):
        for a in range(6):
            self.assertEqual(part_of(FORK, a), (0, 1, 2, 3, 4, 5))
        self.assertEqual(part_of(FORK, 6), (6, 8))
        self.assertEqual(part_of(FORK, 8), (6, 8))
        self.assertEqual(part_of(FORK, 7), (7,))

    def test_all_forests(self):
        for forest in [*little_forests(), *middling_forests(), *great_forests()]:
            for a in numbers_of(forest):
                self.assertEqual(part_of(forest, a), the_part(forest, a))


class Sides(unittest.TestCase):

    def test_named_ones(self):
        self.assertEqual(side_of(FORK, 2, 4), (0, 1, 2))
        self.assertEqual(side_of(FORK, 4, 2), (3, 4, 5))
        self.assertEqual(side_of(FORK, 0, 2), (0,))
        self.assertEqual(side_of(FORK, 2, 0), (1, 2, 3, 4, 5))
        self.assertEqual(side_of(FORK, 8, 6), (8,))

    def test_all_forests(self):
        for forest in [*little_forests(), *middling_forests(), *great_forests()]:
            for p, q in both_ways_about(forest):
                self.assertEqual(side_of(forest, p, q), the_side(forest, p, q))

    def test_two_sides_are_the_part_and_share_nothing(self):
        for forest in [*middling_forests(), *great_forests()]:
            for p, q in forest[1]:
                near, far = side_of(forest, p, q), side_of(forest, q, p)
                self.assertIn(p, near)
                self.assertIn(q, far)
                self.assertEqual(tuple(sorted(near + far)), part_of(forest, p))


class Meetings(unittest.TestCase):

    def test_named_ones(self):
        self.assertEqual(meet_of(FORK, 0, 1, 5), 2)
        self.assertEqual(meet_of(FORK, 0, 3, 5), 4)
        self.assertEqual(meet_of(FORK, 0, 4, 5), 4)
        self.assertEqual(meet_of(FORK, 2, 2, 5), 2)
        self.assertEqual(meet_of(FORK, 6, 8, 6), 6)
        self.assertEqual(meet_of(FORK, 7, 7, 7), 7)
        self.assertIsNone(meet_of(FORK, 0, 1, 7))
        self.assertIsNone(meet_of(FORK, 0, 6, 7))
        self.assertIsNone(meet_of(FORK, 6, 6, 0))

    def test_every_three_in_every_order(self):
        for forest in [*little_forests(), *middling_forests()[:9]]:
            for three in itertools.combinations_with_replacement(numbers_of(forest), 3):
                point = the_meeting(forest, *three)
                for a, b, c in itertools.permutations(three):
                    self.assertEqual(meet_of(forest, a, b, c), point, (forest, a, b, c))

    def test_a_hundred_points(self):
        chance = random.Random(6)
        for forest in great_forests():
            for k in range(15):
                three = [chance.randrange(100) for k in range(3)]
                point = the_meeting(forest, *three)
                for a, b, c in itertools.permutations(three):
                    self.assertEqual(meet_of(forest, a, b, c), point, (forest, a, b, c))


class NothingIsChanged(unittest.TestCase):

    def test_the_forest_stays(self):
        for forest in middling_forests():
            kept = copy.deepcopy(forest)
            for a in numbers_of(forest):
                way_of(forest, 0, a)
                part_of(forest, a)
                meet_of(forest, a, 0, 0)
            for p, q in both_ways_about(forest):
                side_of(forest, p, q)
            self.assertEqual(forest, kept)


if __name__ == "__main__":
    unittest.main()
