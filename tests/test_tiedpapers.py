"""Points [3] (b) and [6]: papers of two points."""

import copy
import itertools
import unittest

from tests.brute import the_part, the_way
from tests.makers import FORK, fixed, great_forests, middling_forests, odd_things, small_forests
from tests.rowmakers import LARGE
from tiedcut.tiedpapers import shows_tied, tied_paper


def rising_subsets(many):
    return [points for size in range(many + 1) for points in itertools.combinations(range(many), size)]


def is_paper(forest, a, b, thing):
    """Point [6] once more, of a pair of a text and a tuple of whole numbers."""
    points, ties = forest
    word, numbers = thing
    if word == "way":
        return numbers == the_way(forest, a, b)
    if word != "apart" or list(numbers) != sorted(set(numbers)) or not set(numbers) <= set(range(len(points))):
        return False
    return a in numbers and b not in numbers and all(len({p, q} & set(numbers)) != 1 for p, q in ties)


def changed(numbers, many):
    """Tuples that have one thing otherwise than these numbers."""
    for at in range(len(numbers)):
        yield numbers[:at] + numbers[at + 1:]
        yield numbers[:at] + (numbers[at],) + numbers[at:]
        for number in range(-1, many + 1):
            yield numbers[:at] + (number,) + numbers[at + 1:]
            yield numbers[:at] + (number,) + numbers[at:]
    for number in range(-1, many + 1):
        yield numbers + (number,)
    yield numbers[::-1]
    for at in range(len(numbers) - 1):
        yield numbers[:at] + (numbers[at + 1], numbers[at]) + numbers[at + 2:]


class Papers(unittest.TestCase):

    def test_named_ones(self):
        self.assertEqual(tied_paper(FORK, 0, 5), ("way", (0, 2, 4, 5)))
        self.assertEqual(tied_paper(FORK, 7, 7), ("way", (7,)))
        self.assertEqual(tied_paper(FORK, 6, 8), ("way", (6, 8)))
        word, points = tied_paper(FORK, 8, 0)
        self.assertEqual(word, "apart")
        self.assertIn(8, points)
        self.assertNotIn(0, points)

    def test_each_is_a_paper_and_is_taken(self):
        for forest in [*small_forests(4), *middling_forests()]:
            for a, b in itertools.product(range(len(forest[0])), repeat=2):
                paper = tied_paper(forest, a, b)
                self.assertTrue(is_paper(forest, a, b, paper), (forest, a, b, paper))
                self.assertIs(shows_tied(forest, a, b, paper), True, (forest, a, b, paper))

    def test_a_hundred_points(self):
        for forest in great_forests():
            for a, b in [(0, 99), (99, 0), (17, 58), (58, 17), (40, 41), (3, 3)]:
                paper = tied_paper(forest, a, b)
                self.assertTrue(is_paper(forest, a, b, paper))
                self.assertIs(shows_tied(forest, a, b, paper), True)
                self.assertEqual(paper[0] == "way", b in the_part(forest, a))

    def test_of_one_sort_only(self):
        for forest in small_forests(4):
            rows = [row for size in range(1, 5) for row in itertools.permutations(range(4), size)]
            for a, b in itertools.product(range(4), repeat=2):
                ways = [row for row in rows if shows_tied(forest, a, b, ("way", row))]
                sets = [row for row in rows if shows_tied(forest, a, b, ("apart", row))]
                self.assertEqual(bool(ways), b in the_part(forest, a))
                self.assertEqual(bool(sets), b not in the_part(forest, a))
                self.assertLess(len(ways), 2)

    def test_every_rising_tuple_as_apart(self):
        for forest in [*small_forests(4), FORK]:
            many = len(forest[0])
            for a, b in [(0, many - 1), (many - 1, 0), (1, 1), (2, 3)]:
                for points in rising_subsets(many):
                    thing = ("apart", points)
                    self.assertIs(shows_tied(forest, a, b, thing), is_paper(forest, a, b, thing), (forest, a, b, thing))

    def test_several_parts_together_are_apart_from_another(self):
        self.assertIs(shows_tied(FORK, 6, 7, ("apart", (0, 1, 2, 3, 4, 5, 6, 8))), True)
        self.assertIs(shows_tied(FORK, 6, 7, ("apart", (6, 8))), True)
        self.assertIs(shows_tied(FORK, 6, 7, ("apart", (0, 1, 2, 3, 4, 5))), False)
        self.assertIs(shows_tied(FORK, 6, 7, ("apart", (6, 7, 8))), False)
        self.assertIs(shows_tied(FORK, 6, 7, ("apart", (6,))), False)

    def test_points_that_are_not_there(self):
        self.assertIs(shows_tied(FORK, 7, 0, ("apart", (7,))), True)
        for points in ((-1, 7), (7, 9), (-LARGE, 7), (7, LARGE), (-9, 7), (-2, 7)):
            self.assertIs(shows_tied(FORK, 7, 0, ("apart", points)), False)
        for way in ((7, 9), (-2,), (7, -2), (-2, 7), (9,), (7, LARGE), ()):
            self.assertIs(shows_tied(FORK, 7, 7, ("way", way)), False)

    def test_a_way_to_and_fro_is_none(self):
        for way in ((0, 2, 0), (0, 2, 1, 2, 0), (0, 0)):
            self.assertIs(shows_tied(FORK, 0, 0, ("way", way)), False)
        for way in ((0, 2, 1, 2, 4), (0, 2, 4, 5, 4), (0, 4), (2, 4), (0, 2), (4, 2, 0), (0, 1, 2, 4)):
            self.assertIs(shows_tied(FORK, 0, 4, ("way", way)), False)
        self.assertIs(shows_tied(FORK, 0, 4, ("way", (0, 2, 4))), True)

    def test_one_thing_otherwise(self):
        for forest in [FORK, *middling_forests()[6:13]]:
            many = len(forest[0])
            for a, b in itertools.islice(itertools.product(range(many), repeat=2), 0, None, 5):
                word, numbers = tied_paper(forest, a, b)
                for other in changed(numbers, many):
                    for name in ("way", "apart"):
                        thing = (name, other)
                        self.assertIs(shows_tied(forest, a, b, thing), is_paper(forest, a, b, thing), (forest, a, b, thing))


class Anything(unittest.TestCase):

    def papers(self):
        return [(0, 5, tied_paper(FORK, 0, 5)), (1, 6, tied_paper(FORK, 1, 6)), (1, 1, ("way", (1,)))]

    def check_not(self, a, b, thing):
        self.assertIs(shows_tied(FORK, a, b, thing), False, thing)

    def test_another_word(self):
        for a, b, (word, numbers) in self.papers():
            for other in ("", "w", "Way", "way ", " way", "WAY", "apart ", "part", "round", "holds", "0", None, True, 0, b"way"):
                self.check_not(a, b, (other, numbers))
            self.check_not(a, b, ({"way": "apart", "apart": "way"}[word], numbers))

    def test_a_list_where_a_tuple_is_asked(self):
        for a, b, (word, numbers) in self.papers():
            self.check_not(a, b, [word, numbers])
            self.check_not(a, b, (word, list(numbers)))
            self.check_not(a, b, (word, set(numbers)))
            self.check_not(a, b, (word, dict.fromkeys(numbers)))

    def test_a_part_more_or_less(self):
        for a, b, (word, numbers) in self.papers():
            for thing in ((), (word,), (numbers,), (word, numbers, ()), (word, numbers, numbers), (numbers, word), (word, *numbers)):
                self.check_not(a, b, thing)
            self.check_not(a, b, numbers)
            self.check_not(a, b, word)

    def test_truths_and_others_among_the_points(self):
        for a, b, (word, numbers) in self.papers():
            for at in range(len(numbers)):
                for thing in [float(numbers[at]), str(numbers[at]), complex(numbers[at]), (numbers[at],), *odd_things()]:
                    self.check_not(a, b, (word, numbers[:at] + (thing,) + numbers[at + 1:]))
        self.check_not(1, 1, ("way", (True,)))
        self.check_not(0, 0, ("way", (False,)))
        self.check_not(1, 2, ("way", (True, 2)))
        self.check_not(0, 6, ("apart", (False, True, 2, 3, 4, 5)))
        self.check_not(0, 6, ("apart", (0, True, 2, 3, 4, 5)))
        self.check_not(0, 6, ("apart", (0, 1, 2.0, 3, 4, 5)))

    def test_things_of_any_kind(self):
        for thing in odd_things():
            for a, b in ((0, 5), (0, 6), (7, 7), (0, 0)):
                self.assertIs(shows_tied(FORK, a, b, thing), False)
                for word in ("way", "apart"):
                    self.assertIs(shows_tied(FORK, a, b, (word, thing)), False)
                    self.assertIs(shows_tied(FORK, a, b, (thing, (0, 2, 4, 5))), False)

    def test_nothing_is_changed(self):
        forest = copy.deepcopy(FORK)
        for thing in [*fixed(odd_things()), ["way", [0, 2]], ("way", [0, 2, 4, 5]), ("apart", [[7]])]:
            kept = repr(thing)
            shows_tied(forest, 0, 5, thing)
            self.assertEqual(repr(thing), kept)
        self.assertEqual(forest, FORK)


if __name__ == "__main__":
    unittest.main()
