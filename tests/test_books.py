"""Points [2], [3] (d), (f) and [19]: shows_book, and the book of a Twin."""

import copy
import itertools
import random
import unittest

from tests.keeping import fitting_row, outcome, plain_outcome
from tests.makers import (
    FORK, fixed, great_forests, grown, middling_forests, nested, odd_things, plain_points, small_forests, star, straight)
from tests.roundbrute import begun_at_each, chance_round, parts_of
from tests.rowmakers import FORMS, LARGE, with_part
from tests.shapemakers import plain_names, shape_of
from tests.treebrute import is_linked, the_ties
from tiedcut.books import shows_book
from tiedcut.twin import Twin

WORDS = tuple(FORMS)

# A forest of four points, and a book of it, written by hand.
FOUR = (((1, "a"), (2, "b"), (3, "c"), (4, "d")), ((0, 2), (1, 2)))
SHAPE = ((0, None, None, 2, False), (1, None, None, 2, False), (2, 0, 1, None, False), (3, None, None, None, False))
ROUND = (("point", 0), ("over", 0, 2), ("point", 2), ("over", 2, 1), ("point", 1), ("over", 1, 2), ("over", 2, 0))
LONE = (("point", 3),)
BOOK = (SHAPE, (ROUND, LONE))


def chance_rounds(forest, chance):
    """A round of each part by chance, begun with its least point."""
    found = []
    for part in parts_of(forest):
        marks = chance_round(forest, part[0], chance)
        found += [other for other in begun_at_each(marks) if other[0] == ("point", part[0])]
    return tuple(found)


def played(forest, seed, many=60):
    """A twin of the forest behind rows of all words, refused ones and back, and the forest as it is then."""
    chance = random.Random(seed)
    twin = Twin(forest)
    forests = [forest]
    for k in range(many):
        if chance.random() < 0.2:
            if outcome(twin.back)[0] == "told":
                forests.pop()
        else:
            row = fitting_row(chance, forests[-1], WORDS, 1)
            behind, expected = plain_outcome(forests[-1], row)
            outcome(twin.do, row)
            if len(twin.done()) == len(forests):
                forests.append(behind)
    return twin, forests[-1]


class Books(unittest.TestCase):

    def yes(self, forest, thing):
        self.assertIs(shows_book(forest, thing), True, (forest, thing))

    def no(self, forest, thing):
        self.assertIs(shows_book(forest, thing), False, (forest, thing))


class Shown(Books):

    def test_the_named_one(self):
        self.yes(FOUR, BOOK)

    def test_twins_at_the_beginning(self):
        lone = (plain_points(7), ())
        for forest in [straight(1), lone, *small_forests(4), *middling_forests(), *great_forests()]:
            self.yes(forest, Twin(forest).book())

    def test_twins_behind_rows_of_all_words(self):
        for number, forest in enumerate([straight(1), star(7), FORK, *middling_forests()]):
            for seed in range(4):
                twin, now = played(forest, f"{number} {seed}")
                self.assertEqual(twin.forest(), now)
                self.yes(now, twin.book())
                self.yes(now, twin.book())

    def test_twins_behind_each_row(self):
        chance = random.Random(5)
        for forest in [FORK, star(6), grown(8, 2)]:
            twin = Twin(forest)
            for k in range(80):
                outcome(twin.do, fitting_row(chance, twin.forest(), WORDS, 1))
                self.yes(twin.forest(), twin.book())

    def test_twins_gone_back_and_on_again(self):
        chance = random.Random(6)
        for forest in [FORK, *middling_forests()[::3]]:
            twin = Twin(forest)
            for k in range(30):
                outcome(twin.do, fitting_row(chance, twin.forest(), WORDS))
            for turn in range(2):
                deeds = twin.done()
                forests = [twin.at(k) for k in range(len(deeds) + 1)]
                while twin.done():
                    twin.back()
                    self.yes(forests[len(twin.done())], twin.book())
                for k, row in enumerate(deeds):
                    twin.do(row)
                    self.yes(forests[k + 1], twin.book())

    def test_great_ones(self):
        for number, forest in enumerate(great_forests()):
            twin, now = played(forest, number, 150)
            self.yes(now, twin.book())

    def test_every_shape_of_a_forest(self):
        """Shapes by chance, of whatever strands: each is taken with the forest whose ties it tells."""
        chance = random.Random(4)
        for many, seed in itertools.product((1, 2, 3, 5, 8, 13, 40), range(8)):
            for hung, tops in ((0, 0), (0.3, 0.2), (1, 0.1), (0.5, 0.5)):
                shape = shape_of(seed, many, plain_names, True, hung, tops)
                forest = (plain_points(many), the_ties(shape))
                self.yes(forest, (shape, chance_rounds(forest, chance)))

    def test_every_round_of_a_part(self):
        chance = random.Random(3)
        for forest in [*small_forests(4), FORK, *middling_forests()]:
            shape = Twin(forest).book()[0]
            for k in range(4):
                self.yes(forest, (shape, chance_rounds(forest, chance)))

    def test_worths_and_kinds_are_free(self):
        self.yes((((LARGE, "h"), (-LARGE, "a"), (0, "b"), (0, "b")), FOUR[1]), BOOK)


class Otherwise(Books):

    def test_other_forests(self):
        forests = list(small_forests(4))
        books = [Twin(forest).book() for forest in forests]
        for forest, (shape, rounds) in itertools.product(forests, books):
            own = books[forests.index(forest)]
            self.assertIs(shows_book(forest, (shape, rounds)), rounds == own[1])
            self.assertIs(shows_book(forest, (shape, own[1])), shape == own[0])
            self.assertIs(shows_book(forest, (own[0], rounds)), rounds == own[1])

    def test_a_point_more_or_less(self):
        for forest in [*small_forests(3), FORK, grown(9, 3)]:
            points, ties = forest
            shape, rounds = Twin(forest).book()
            more = len(points)
            alone = (more, None, None, None, False)
            self.no((points + ((0, "a"),), ties), (shape, rounds))
            self.no((points + ((0, "a"),), ties), ((*shape, alone), rounds))
            self.no((points + ((0, "a"),), ties), (shape, (*rounds, (("point", more),))))
            self.yes((points + ((0, "a"),), ties), ((*shape, alone), (*rounds, (("point", more),))))
            self.no(forest, ((*shape, alone), rounds))
            self.no(forest, (((-1, None, None, None, False), *shape), rounds))
            self.no(forest, (shape, (*rounds, (("point", more),))))

    def test_shapes_otherwise(self):
        """One value of a row otherwise: taken just where it is a shape still that tells the same ties."""
        for forest in [*small_forests(3), FOUR, FORK]:
            shape, rounds = played(forest, 1, 12)[0].book()
            ties = the_ties(shape)
            now = (plain_points(len(shape)), ties)
            for at, row in enumerate(shape):
                self.no(now, (shape[:at] + shape[at + 1:], rounds))
                self.no(now, (shape[:at] + (row, row) + shape[at + 1:], rounds))
                for thing in (None, -1, len(shape), *range(len(shape))):
                    if thing != row[0]:
                        self.no(now, (with_part(shape, at, with_part(row, 0, thing)), rounds))
                    for place in range(1, 4):
                        other = with_part(shape, at, with_part(row, place, thing))
                        right = is_linked(other) and the_ties(other) == ties
                        self.assertIs(shows_book(now, (other, rounds)), right, (now, other))
                turned = with_part(shape, at, (*row[:4], not row[4]))
                self.assertIs(shows_book(now, (turned, rounds)), the_ties(turned) == ties)
            self.no(now, (shape[::-1] if len(shape) > 1 else (), rounds))

    def test_a_name_turned_that_changes_the_ties(self):
        # Strands of 0 and 1, and of 3 and 2 below 1: turned about the second one hangs on 1 by its other end.
        shape = ((0, None, 1, None, False), (1, None, None, 0, False), (2, None, None, 3, False), (3, None, 2, 1, False))
        forest = (plain_points(4), ((0, 1), (1, 3), (2, 3)))
        rounds = Twin(forest).book()[1]
        self.yes(forest, (shape, rounds))
        turned = with_part(shape, 3, (3, None, 2, 1, True))
        self.no(forest, (turned, rounds))
        other = (plain_points(4), ((0, 1), (1, 2), (2, 3)))
        self.yes(other, (turned, Twin(other).book()[1]))
        self.yes(forest, (with_part(shape, 0, (0, None, 1, None, True)), rounds))
        self.yes(forest, (with_part(shape, 2, (2, None, None, 3, True)), rounds))

    def test_shapes_of_other_names(self):
        marks = tuple((("point", name), *[None if x is None else ("point", x) for x in links], turned) for name, *links, turned in SHAPE)
        self.no(FOUR, (marks, BOOK[1]))
        more = tuple((name + 1, *[None if x is None else x + 1 for x in links], turned) for name, *links, turned in SHAPE)
        self.no(FOUR, (more, BOOK[1]))
        self.no(FOUR, ((), BOOK[1]))
        self.no((((0, "a"),), ()), ((), ((("point", 0),),)))

    def test_rounds_left_out_twice_or_exchanged(self):
        for forest in [*small_forests(4), FORK, grown(15, 1, 0.4)]:
            shape, rounds = Twin(forest).book()
            self.no(forest, (shape, ()))
            for at, marks in enumerate(rounds):
                self.no(forest, (shape, rounds[:at] + rounds[at + 1:]))
                self.no(forest, (shape, rounds[:at] + (marks, marks) + rounds[at + 1:]))
                self.no(forest, (shape, (*rounds, marks)))
                for other in range(at):
                    exchanged = with_part(with_part(rounds, at, rounds[other]), other, marks)
                    self.no(forest, (shape, exchanged))

    def test_rounds_begun_elsewhere(self):
        for forest in [*small_forests(4), FORK, *middling_forests()]:
            shape, rounds = Twin(forest).book()
            for at, marks in enumerate(rounds):
                for other in begun_at_each(marks)[1:]:
                    self.no(forest, (shape, with_part(rounds, at, other)))

    def test_rounds_begun_elsewhere_that_rise(self):
        """The first marks rise here, too, but they aren't the least ones."""
        forest = (plain_points(4), ((0, 1), (2, 3)))
        first = (("point", 1), ("over", 1, 0), ("point", 0), ("over", 0, 1))
        second = (("point", 2), ("over", 2, 3), ("point", 3), ("over", 3, 2))
        shape = Twin(forest).book()[0]
        self.yes(forest, (shape, (first[2:] + first[:2], second)))
        self.no(forest, (shape, (first, second)))
        self.no(forest, (shape, (first[2:] + first[:2], second[2:] + second[:2])))

    def test_rounds_of_other_parts(self):
        shape, rounds = Twin(FORK).book()
        for other in [*small_forests(3), straight(9), star(9), grown(9, 5, 0.3)]:
            self.no(FORK, (shape, Twin(other).book()[1]))
            for marks in Twin(other).book()[1]:
                for at in range(len(rounds)):
                    if marks != rounds[at]:
                        self.no(FORK, (shape, with_part(rounds, at, marks)))

    def test_marks_otherwise(self):
        for forest in [*small_forests(3), FOUR, FORK]:
            shape, rounds = Twin(forest).book()
            for at, marks in enumerate(rounds):
                for k, mark in enumerate(marks):
                    for thing in (list(mark), mark[1:], (*mark, 0), ("point", 99), ("over", 0, 99), ("over", *mark[1:]), mark[::-1], None, 0):
                        if thing != mark:
                            self.no(forest, (shape, with_part(rounds, at, with_part(marks, k, thing))))
                    self.no(forest, (shape, with_part(rounds, at, marks[:k] + marks[k + 1:])))
                    self.no(forest, (shape, with_part(rounds, at, marks[:k] + (mark, mark) + marks[k + 1:])))

    def test_one_part_in_two_rounds(self):
        """All points once, each round right by itself, but a tie is missing."""
        forest = (plain_points(2), ((0, 1),))
        shape = Twin(forest).book()[0]
        self.no(forest, (shape, ((("point", 0),), (("point", 1),))))
        lone = (plain_points(2), ())
        self.no(lone, (Twin(lone).book()[0], ((("point", 0), ("over", 0, 1), ("point", 1), ("over", 1, 0)),)))

    def test_lists_for_tuples(self):
        shape, rounds = BOOK
        self.no(FOUR, list(BOOK))
        self.no(FOUR, (list(shape), rounds))
        self.no(FOUR, (shape, list(rounds)))
        for at in range(4):
            self.no(FOUR, (with_part(shape, at, list(shape[at])), rounds))
        for at in range(2):
            self.no(FOUR, (shape, with_part(rounds, at, list(rounds[at]))))
        self.no(FOUR, (rounds, shape))
        self.no(FOUR, BOOK[:1])
        self.no(FOUR, (*BOOK, ()))

    def test_truths_for_numbers(self):
        shape, rounds = BOOK
        for at, row in enumerate(shape):
            for place, value in enumerate(row):
                if value in (0, 1) and value is not None and place < 4:
                    self.no(FOUR, (with_part(shape, at, with_part(row, place, bool(value))), rounds))
            self.no(FOUR, (with_part(shape, at, (*row[:4], 0)), rounds))
            self.no(FOUR, (with_part(shape, at, (*row[:4], None)), rounds))
        for k, mark in enumerate(ROUND):
            for place in range(1, len(mark)):
                if mark[place] < 2:
                    marks = with_part(ROUND, k, with_part(mark, place, bool(mark[place])))
                    self.no(FOUR, (shape, (marks, LONE)))
                marks = with_part(ROUND, k, with_part(mark, place, float(mark[place])))
                self.no(FOUR, (shape, (marks, LONE)))

    def test_things_of_any_kind(self):
        shape, rounds = BOOK
        for thing in [*odd_things(), 0, 1, "book"]:
            self.no(FOUR, thing)
            self.no(FOUR, (thing, thing))
            self.no(FOUR, (shape, thing))
            self.no(FOUR, (thing, rounds))
            self.no(FOUR, (shape, (thing,)))
            self.no(FOUR, (shape, (ROUND, thing)))
            self.no(FOUR, (shape, (ROUND, LONE, thing)))
            self.no(FOUR, (with_part(shape, 3, thing), rounds))
            self.no(FOUR, (with_part(shape, 3, (3, None, None, thing, False)), rounds) if thing is not None else None)
            self.no(FOUR, (shape, (ROUND, (thing,))))
            self.no(FOUR, (shape, (ROUND, (("point", thing),))))
        for depth in (1, 2, 25):
            self.no(FOUR, nested(tuple, depth, BOOK))
            self.no(FOUR, nested(list, depth, BOOK))
            self.no(FOUR, (shape, nested(tuple, depth, rounds)))

    def test_nothing_is_changed(self):
        forest = copy.deepcopy(FOUR)
        for thing in [*fixed(odd_things()), list(BOOK), (list(SHAPE), BOOK[1]), (SHAPE, [list(ROUND), LONE])]:
            kept = repr(thing)
            shows_book(forest, thing)
            self.assertEqual(repr(thing), kept)
        book = copy.deepcopy(BOOK)
        shows_book(forest, book)
        self.assertEqual((forest, book), (FOUR, BOOK))

    def test_asked_twice_the_same(self):
        for k in range(3):
            self.yes(FOUR, BOOK)
            self.no(FOUR, (SHAPE, (LONE, ROUND)))


if __name__ == "__main__":
    unittest.main()
