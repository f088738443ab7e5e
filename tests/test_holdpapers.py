"""Points [2], [3] (g) and [24]: shows_holding."""

import copy
import itertools
import random
import unittest

from tests.makers import fixed, nested, odd_things
from tests.offerbrute import joined_with, the_right_entry, trails
from tests.offermakers import by_chance, great_offers, middling_offers, pairs_of
from tests.rowmakers import LARGE, with_part
from tiedcut.holding import Holding
from tiedcut.holdpapers import shows_holding

# A ring of 0, 1 and 2, from it one to 3, from there two to 4, one of 5 alone and one of 1 alone.
OFFERS = ((0, 1), (1, 2), (2, 0), (2, 3), (3, 4), (4, 3), (5, 5), (1, 1))
PAPER = (("round", (2, 1)), ("round", (0, 2)), ("round", (1, 0)), ("holds", (0, 1, 2)), ("round", (5,)), ("round", (4,)), ("round", ()), ("round", ()))


def some_paper(many, offers):
    """A right paper, reckoned otherwise than the program does."""
    found = []
    for number, (a, b) in enumerate(offers):
        others = [k for k in range(len(offers)) if k != number]
        part = joined_with(offers, others, a)
        if b in part:
            found.append(("round", first_trail(offers, others, a, b)))
        else:
            found.append(("holds", tuple(sorted(part))))
    return tuple(found)


def first_trail(offers, others, a, b):
    """Others that lead from a on to b: found by steps from a outward, told from b back."""
    came = {a: ()}
    for step in range(len(offers) + 1):
        for k in others:
            for low, high in (offers[k], offers[k][::-1]):
                if low in came and high not in came:
                    came[high] = (*came[low], k)
    return came[b]


class Shown(unittest.TestCase):

    def yes(self, many, offers, thing):
        self.assertIs(shows_holding(many, offers, thing), True, (many, offers, thing))

    def no(self, many, offers, thing):
        self.assertIs(shows_holding(many, offers, thing), False, (many, offers, thing))

    def as_by_words(self, many, offers, thing):
        right = len(thing) == len(offers) and all(the_right_entry(many, offers, k, entry) for k, entry in enumerate(thing))
        self.assertIs(shows_holding(many, offers, thing), right, (many, offers, thing))


class Right(Shown):

    def test_the_named_one(self):
        self.yes(6, OFFERS, PAPER)
        self.yes(9, OFFERS, PAPER)

    def test_no_offers(self):
        for many in (1, 5):
            self.yes(many, (), ())
            self.no(many, (), (("round", ()),))
            self.no(many, (), (("holds", (0,)),))

    def test_what_a_holding_tells(self):
        for many, offers in [*middling_offers(), *great_offers()]:
            holding, pairs = Holding(many), pairs_of(offers)
            for number, pair in enumerate(pairs, 1):
                holding.offer(*pair)
                if number % 9 == 0 and number < 40 or number == len(pairs):
                    self.yes(many, pairs[:number], holding.paper())

    def test_what_is_reckoned_otherwise(self):
        for many, offers in [*middling_offers(), great_offers()[0]]:
            self.yes(many, pairs_of(offers), some_paper(many, pairs_of(offers)))

    def test_each_other_way_round(self):
        for many, length, seed in itertools.product((2, 3, 4), (3, 5, 6), range(6)):
            offers = pairs_of(by_chance(many, length, f"hold {seed}"))
            paper = some_paper(many, offers)
            for number, (a, b) in enumerate(offers):
                others = [k for k in range(length) if k != number]
                for numbers in trails(offers, others, a, b):
                    self.yes(many, offers, with_part(paper, number, ("round", numbers)))

    def test_each_other_set_of_points(self):
        """Points that hang together with neither, too, on the one side or on the other."""
        for many, length, seed in itertools.product((2, 4, 5), (1, 3), range(6)):
            offers = pairs_of(by_chance(many, length, f"sides {seed}"))
            paper = some_paper(many, offers)
            for number in range(length):
                for size in range(many + 1):
                    for points in itertools.combinations(range(many), size):
                        entry = ("holds", points)
                        right = the_right_entry(many, offers, number, entry)
                        self.assertIs(shows_holding(many, offers, with_part(paper, number, entry)), right)
        self.yes(5, ((0, 1), (2, 3)), (("holds", (0,)), ("holds", (2,))))
        self.yes(5, ((0, 1), (2, 3)), (("holds", (0, 2, 3, 4)), ("holds", (0, 1, 2))))
        self.yes(5, ((0, 1), (2, 3)), (("holds", (0, 4)), ("holds", (2, 4))))

    def test_one_of_a_point_to_itself_among_them(self):
        self.yes(6, OFFERS, with_part(PAPER, 0, ("round", (2, 1, 7))))
        self.yes(6, OFFERS, with_part(PAPER, 1, ("round", (7, 0, 2))))
        self.yes(6, OFFERS, with_part(PAPER, 2, ("round", (1, 7, 0))))
        self.no(6, OFFERS, with_part(PAPER, 0, ("round", (7, 2, 1))))
        self.no(6, OFFERS, with_part(PAPER, 0, ("round", (2, 1, 6))))

    def test_of_a_point_to_itself(self):
        self.yes(3, ((0, 0), (0, 0)), (("round", ()), ("round", ())))
        self.no(3, ((0, 0), (0, 0)), (("holds", (0,)), ("round", ())))
        self.no(3, ((0, 0), (0, 0)), (("holds", ()), ("round", ())))
        self.no(3, ((0, 0), (1, 1)), (("round", (1,)), ("round", ())))


class Otherwise(Shown):

    def test_the_other_word(self):
        for at, (word, numbers) in enumerate(PAPER):
            for other in ("holds", "round", "hold", "rounds", "Holds", "", "way", "apart"):
                if other != word:
                    self.no(6, OFFERS, with_part(PAPER, at, (other, numbers)))

    def test_points_otherwise(self):
        for points in ((), (0,), (0, 1), (1, 2), (0, 2), (3,), (3, 4), (0, 1, 2, 3), (0, 1, 2, 4), (2, 1, 0), (0, 2, 1), (0, 1, 1, 2), (0, 1, 2, 2), (0, 1, 2, 6),
                       (-1, 0, 1, 2), (0, 1, 2, LARGE), (0, 1, 2, 3, 4), (2,), (0, 1, 2, 3, 4, 5)):
            self.no(6, OFFERS, with_part(PAPER, 3, ("holds", points)))
        self.yes(6, OFFERS, with_part(PAPER, 3, ("holds", (0, 1, 2, 5))))
        self.no(5, ((0, 1),), (("holds", (0, 5)),))
        self.no(5, ((0, 1),), (("holds", (-1, 0)),))
        self.yes(5, ((0, 1),), (("holds", (0, 4)),))
        self.no(5, ((1, 0),), (("holds", (0,)),))

    def test_numbers_otherwise(self):
        ways = [numbers for size in range(4) for numbers in itertools.product(range(-1, 9), repeat=size)]
        for at in (0, 3, 4, 6):
            for numbers in ways:
                self.as_by_words(6, OFFERS, with_part(PAPER, at, ("round", numbers)))

    def test_the_offer_itself(self):
        for at in range(len(OFFERS)):
            self.no(6, OFFERS, with_part(PAPER, at, ("round", (at,))))
        self.no(3, ((0, 1), (0, 1), (2, 2)), (("round", (0,)), ("round", (0,)), ("round", ())))
        self.no(3, ((0, 0),), (("round", (0,)),))

    def test_one_twice(self):
        self.no(6, OFFERS, with_part(PAPER, 4, ("round", (5, 5, 5))))
        self.no(6, OFFERS, with_part(PAPER, 0, ("round", (2, 1, 7, 7))))
        self.no(6, OFFERS, with_part(PAPER, 0, ("round", (2, 3, 3, 1))))

    def test_numbers_from_the_end(self):
        self.no(2, ((0, 1), (0, 1)), (("round", (-1,)), ("round", (0,))))

    def test_entries_otherwise(self):
        for at, entry in enumerate(PAPER):
            self.no(6, OFFERS, PAPER[:at] + PAPER[at + 1:])
            self.no(6, OFFERS, PAPER[:at] + (entry, entry) + PAPER[at + 1:])
            self.no(6, OFFERS, (*PAPER, entry))
            for other in range(at):
                exchanged = with_part(with_part(PAPER, at, PAPER[other]), other, entry)
                self.as_by_words(6, OFFERS, exchanged)
            for thing in (entry[:1], entry[1:], entry[::-1], (*entry, ()), (entry,), entry[0], entry[1], None):
                self.no(6, OFFERS, with_part(PAPER, at, thing))
        self.no(6, OFFERS, ())

    def test_one_thing_otherwise_as_by_words(self):
        chance = random.Random(1)
        for many, offers in [pair for pair in middling_offers() if 0 < len(pair[1]) <= 30]:
            pairs = pairs_of(offers)
            paper = some_paper(many, pairs)
            for k in range(60):
                at = chance.randrange(len(paper))
                word, numbers = paper[at][0], list(paper[at][1])
                act = chance.randrange(5)
                if act == 0 and numbers:
                    numbers.pop(chance.randrange(len(numbers)))
                elif act == 1 and numbers:
                    numbers[chance.randrange(len(numbers))] = chance.randint(-1, len(pairs))
                elif act == 2:
                    numbers.insert(chance.randint(0, len(numbers)), chance.randint(-1, len(pairs)))
                elif act == 3:
                    word = "round" if word == "holds" else "holds"
                else:
                    chance.shuffle(numbers)
                self.as_by_words(many, pairs, with_part(paper, at, (word, tuple(numbers))))

    def test_lists_for_tuples(self):
        self.no(6, OFFERS, list(PAPER))
        self.no(6, OFFERS, dict(enumerate(PAPER)))
        for at, (word, numbers) in enumerate(PAPER):
            self.no(6, OFFERS, with_part(PAPER, at, [word, numbers]))
            self.no(6, OFFERS, with_part(PAPER, at, (word, list(numbers))))
            self.no(6, OFFERS, with_part(PAPER, at, (word, set(numbers))))

    def test_truths_for_numbers(self):
        for at, (word, numbers) in enumerate(PAPER):
            for place, number in enumerate(numbers):
                if number in (0, 1):
                    self.no(6, OFFERS, with_part(PAPER, at, (word, with_part(numbers, place, bool(number)))))
                self.no(6, OFFERS, with_part(PAPER, at, (word, with_part(numbers, place, float(number)))))
                self.no(6, OFFERS, with_part(PAPER, at, (word, with_part(numbers, place, str(number)))))

    def test_things_of_any_kind(self):
        for thing in [*odd_things(), 9, -1, "holds", "round", ("holds", "round")]:
            self.no(6, OFFERS, thing)
            self.no(6, OFFERS, (thing,) * 8)
            self.no(6, OFFERS, (*PAPER, thing))
            for at, (word, numbers) in enumerate(PAPER):
                self.no(6, OFFERS, with_part(PAPER, at, thing))
                self.no(6, OFFERS, with_part(PAPER, at, (thing, thing)))
                self.no(6, OFFERS, with_part(PAPER, at, (word, (thing,))))
                if repr(thing) != repr(word):
                    self.no(6, OFFERS, with_part(PAPER, at, (thing, numbers)))
                if repr(thing) != repr(numbers):
                    self.no(6, OFFERS, with_part(PAPER, at, (word, thing)))
        for depth in (1, 2, 26):
            self.no(6, OFFERS, nested(tuple, depth, PAPER))
            self.no(6, OFFERS, nested(list, depth, PAPER))

    def test_nothing_is_changed(self):
        offers, right = copy.deepcopy(OFFERS), copy.deepcopy(PAPER)
        for thing in [*fixed(odd_things()), list(PAPER), tuple(list(entry) for entry in PAPER), right]:
            kept = repr(thing)
            shows_holding(6, offers, thing)
            self.assertEqual(repr(thing), kept)
        self.assertEqual((offers, right), (OFFERS, PAPER))


if __name__ == "__main__":
    unittest.main()
