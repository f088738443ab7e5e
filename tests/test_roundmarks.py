"""Point [16]: marks, is_round and ties_of_round."""

import itertools
import random
import unittest

from tests.makers import FORK, fixed, great_forests, grown, middling_forests, nested, odd_things, small_forests, straight
from tests.roundbrute import begun_at_each, chance_round, parts_of, the_is_round, the_round_ties
from tests.rowmakers import LARGE
from tiedcut.roundmarks import is_round, ties_of_round

# A round of a part of three points, one in the middle.
THREE = (("point", 1), ("over", 1, 0), ("point", 0), ("over", 0, 1), ("over", 1, 2), ("point", 2), ("over", 2, 1))


def rounds_by_chance(forests, many=2):
    chance = random.Random(7)
    return [chance_round(forest, part[0], chance) for forest in forests for part in parts_of(forest) for k in range(many)]


def with_item(row, at, thing):
    return row[:at] + (thing,) + row[at + 1:]


class IsRound(unittest.TestCase):

    def yes(self, thing):
        self.assertIs(is_round(thing), True, thing)

    def no(self, thing):
        self.assertIs(is_round(thing), False, thing)

    def as_by_words(self, thing):
        self.assertIs(is_round(thing), the_is_round(thing), thing)

    def test_named_ones(self):
        self.yes((("point", 0),))
        self.yes((("point", 7),))
        self.yes((("point", LARGE),))
        self.yes((("point", 0), ("over", 0, 1), ("point", 1), ("over", 1, 0)))
        self.yes((("point", 1), ("over", 1, 0), ("point", 0), ("over", 0, 1)))
        self.yes(THREE)
        self.yes((("point", 0), ("over", 0, 1), ("over", 1, 2), ("point", 2), ("over", 2, 1), ("point", 1), ("over", 1, 0)))
        self.yes((("point", 10 ** 40), ("over", 10 ** 40, 5), ("point", 5), ("over", 5, 10 ** 40)))

    def test_rounds_of_parts_begun_at_each_point(self):
        for marks in rounds_by_chance([*small_forests(4), *middling_forests()]):
            for other in begun_at_each(marks):
                self.yes(other)

    def test_a_hundred_points(self):
        for marks in rounds_by_chance(great_forests(), 1):
            for other in begun_at_each(marks)[::20]:
                self.yes(other)
                self.assertEqual(len(other) % 3, 1)

    def test_all_tuples_of_few_marks(self):
        marks = [("point", 0), ("point", 1), ("over", 0, 1), ("over", 1, 0), ("over", 0, 0)]
        found = 0
        for many in range(6):
            for thing in itertools.product(marks, repeat=many):
                found += the_is_round(thing)
                self.as_by_words(thing)
        self.assertEqual(found, 4)

    def test_one_thing_otherwise(self):
        """Left out, put in, twice, exchanged, another in its place, turned about: as the document's words say."""
        chance = random.Random(8)
        for marks in rounds_by_chance([*small_forests(3), FORK, grown(6, 1)], 3):
            points = [mark[1] for mark in marks if mark[0] == "point"] + [99]
            every = [("point", p) for p in points] + [("over", p, q) for p in points for q in points]
            others = [marks[::-1], marks[1:] + marks[:1], marks + marks, marks * 3]
            others.append(tuple((mark[0], *mark[:0:-1]) for mark in marks))
            for at in range(len(marks)):
                others += [marks[:at] + marks[at + 1:], with_item(marks, at, marks[at][:1] + marks[at][:0:-1])]
                others += [marks[at:] + marks[:at], marks[:at] + (marks[at],) + marks[at:]]
                for k in range(6):
                    others += [with_item(marks, at, chance.choice(every)), marks[:at] + (chance.choice(every),) + marks[at:]]
                other = chance.randrange(len(marks))
                others.append(with_item(with_item(marks, at, marks[other]), other, marks[at]))
            for thing in others:
                self.as_by_words(thing)
                self.as_by_words(thing[::-1])

    def test_a_mark_left_out(self):
        for marks in rounds_by_chance([*small_forests(4), FORK], 1):
            for at in range(len(marks)):
                self.no(marks[:at] + marks[at + 1:])

    def test_a_mark_twice_or_put_in(self):
        for marks in rounds_by_chance([*small_forests(3), FORK], 1):
            for at in range(len(marks) + 1):
                for mark in (*marks, ("point", 99), ("over", 0, 99), ("over", 99, 0), ("over", 1, 1)):
                    self.no(marks[:at] + (mark,) + marks[at:])

    def test_an_over_without_its_other_one(self):
        self.no((("point", 0), ("over", 0, 1), ("point", 1)))
        self.no((("point", 0), ("over", 1, 0)))
        self.no((("point", 0), ("over", 0, 1), ("point", 1), ("over", 1, 2), ("point", 2), ("over", 2, 0)))

    def test_one_that_leads_from_where_one_does_not_stand(self):
        self.no((("point", 0), ("over", 1, 0), ("point", 1), ("over", 0, 1)))
        self.no((("point", 0), ("point", 1), ("over", 0, 1), ("over", 1, 0)))
        self.no((("point", 0), ("over", 0, 1), ("over", 1, 0), ("point", 1)))
        self.no(THREE[:3] + (THREE[5],) + THREE[3:5] + THREE[6:])

    def test_ties_with_a_ring(self):
        ring = (("point", 0), ("over", 0, 1), ("point", 1), ("over", 1, 2), ("point", 2), ("over", 2, 0), ("over", 0, 2), ("over", 2, 1), ("over", 1, 0))
        self.assertIs(the_is_round(ring), False)
        self.no(ring)
        self.no((("point", 0), ("over", 0, 0)))
        self.no((("point", 0), ("over", 0, 0), ("over", 0, 0)))
        self.no((*THREE, ("over", 1, 1)))
        square = [("point", 0)]
        for a, b in ((0, 1), (1, 2), (2, 3), (3, 0)):
            square += [("over", a, b), ("point", b)]
        square = square[:-1] + [("over", b, a) for a, b in ((3, 0), (2, 3), (1, 2), (0, 1))]
        self.no(tuple(square))

    def test_begun_with_an_over(self):
        for marks in rounds_by_chance([*small_forests(3), FORK], 1):
            for at, mark in enumerate(marks):
                self.assertIs(is_round(marks[at:] + marks[:at]), mark[0] == "point")

    def test_truths_and_numbers_below_nought(self):
        self.no((("point", True),))
        self.no((("point", False),))
        self.no((("point", -1),))
        self.no((("point", -1), ("over", -1, 0), ("point", 0), ("over", 0, -1)))
        for at, mark in enumerate(THREE):
            for place in range(1, len(mark)):
                if mark[place] < 2:
                    self.no(with_item(THREE, at, with_item(mark, place, bool(mark[place]))))
                self.no(with_item(THREE, at, with_item(mark, place, float(mark[place]))))
                self.no(with_item(THREE, at, with_item(mark, place, str(mark[place]))))

    def test_lists_for_tuples_and_no_marks(self):
        self.no(())
        self.no(list(THREE))
        self.no([])
        self.no({THREE[0]})
        for at, mark in enumerate(THREE):
            for thing in (list(mark), mark[1:], mark[:1], mark + (0,), mark[::-1], mark[1], mark[0], None, (mark,), ("Point", 1), ("over", 1), ("point", 1, 0)):
                self.no(with_item(THREE, at, thing))

    def test_things_of_any_kind(self):
        for thing in odd_things():
            self.no(thing)
            self.no((thing,))
            self.no((*THREE, thing))
            self.no((thing, *THREE))
            self.no((("point", thing),))
            self.no(((thing, 0),))
            self.no((("point", 0), ("over", 0, thing), ("point", 1), ("over", 1, 0)))
            self.no((thing, thing))
        for depth in (1, 2, 28):
            self.no(nested(tuple, depth, THREE))
            self.no(nested(list, depth, THREE))

    def test_nothing_is_changed(self):
        for thing in [*fixed(odd_things()), list(THREE), tuple(list(mark) for mark in THREE)]:
            kept = repr(thing)
            is_round(thing)
            self.assertEqual(repr(thing), kept)


class TiesOfRound(unittest.TestCase):

    def test_named_ones(self):
        self.assertEqual(ties_of_round((("point", 3),)), ())
        self.assertEqual(ties_of_round(THREE), ((0, 1), (1, 2)))
        self.assertEqual(ties_of_round((("point", LARGE), ("over", LARGE, 5), ("point", 5), ("over", 5, LARGE))), ((5, LARGE),))

    def test_parts_of_forests(self):
        chance = random.Random(3)
        for forest in [*small_forests(4), *middling_forests(), *great_forests(), straight(300)]:
            found = []
            for part in parts_of(forest) if len(forest[0]) < 200 else [(0,)]:
                marks = chance_round(forest, part[0], chance)
                ties = ties_of_round(marks)
                self.assertIsInstance(ties, tuple)
                self.assertEqual(ties, tuple(sorted(the_round_ties(marks))))
                found += ties
            self.assertEqual(tuple(sorted(found)), forest[1])


if __name__ == "__main__":
    unittest.main()
