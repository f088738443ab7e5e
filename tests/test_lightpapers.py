"""Points [2], [3] (g) and [23]: shows_lightest."""

import copy
import itertools
import random
import unittest

from tests.makers import fixed, nested, odd_things
from tests.offerbrute import all_kept, joined_with, least_price, parts_by, the_paper, trails
from tests.offermakers import by_chance, great_offers, middling_offers
from tests.rowmakers import LARGE, with_part
from tiedcut.lightest import Lightest
from tiedcut.lightpapers import shows_lightest

# Points 0 to 3 in a row by 0, 1 and 2; what was let go: two from end to end, one beside another, one of a point alone.
OFFERS = ((0, 1, 5), (1, 2, 7), (2, 3, 6), (0, 3, 7), (3, 0, 9), (2, 1, 8), (2, 2, 0))
KEPT = (0, 1, 2)
PAPER = ((3, (0, 1, 2)), (4, (2, 1, 0)), (5, (1,)), (6, ()))


def has_ring(offers, numbers):
    return any(offers[k][1] in joined_with(offers, [j for j in numbers if j != k], offers[k][0]) for k in numbers)


def right_by_words(offers, kept, paper):
    """Point [23] of tuples of whole numbers."""
    if list(kept) != sorted(set(kept)) or not set(kept) <= set(range(len(offers))) or has_ring(offers, kept):
        return False
    others = [k for k in range(len(offers)) if k not in kept]
    if [number for number, numbers in paper] != others:
        return False
    for number, numbers in paper:
        a, b, price = offers[number]
        if numbers not in trails(offers, kept, a, b) or any(offers[k][2] > price for k in numbers):
            return False
    return True


class Shown(unittest.TestCase):

    def yes(self, many, offers, thing):
        self.assertIs(shows_lightest(many, offers, thing), True, (many, offers, thing))

    def no(self, many, offers, thing):
        self.assertIs(shows_lightest(many, offers, thing), False, (many, offers, thing))


class Right(Shown):

    def test_the_named_one(self):
        self.yes(4, OFFERS, (KEPT, PAPER))
        self.yes(9, OFFERS, (KEPT, PAPER))

    def test_no_offers(self):
        for many in (1, 5):
            self.yes(many, (), ((), ()))
            self.no(many, (), ((0,), ()))
            self.no(many, (), ((), ((0, ()),)))

    def test_what_a_lightest_tells(self):
        for many, offers in [*middling_offers(), *great_offers()]:
            lightest = Lightest(many)
            for number, offer in enumerate(offers, 1):
                lightest.offer(*offer)
                if number % 7 == 0 or number == len(offers):
                    self.yes(many, offers[:number], (lightest.kept(), lightest.paper()))

    def test_what_is_reckoned_otherwise(self):
        for many, offers in middling_offers():
            kept = all_kept(offers)[-1][0] if offers else ()
            self.yes(many, offers, (kept, the_paper(offers, kept)))

    def test_every_set_of_kept_ones(self):
        """Each set without a ring that joins all and has the least price is shown, no other one."""
        for many, length, seed in itertools.product((2, 3, 4), (2, 4, 6), range(5)):
            offers = by_chance(many, length, f"sets {seed}", (0, 1, 1, 2))
            least = least_price(many, offers)
            whole = parts_by(many, offers, range(length))
            found = 0
            for size in range(length + 1):
                for kept in itertools.combinations(range(length), size):
                    right = not has_ring(offers, kept) and parts_by(many, offers, kept) == whole
                    right = right and sum(offers[k][2] for k in kept) == least
                    found += right
                    entries = [(k, trails(offers, kept, *offers[k][:2])) for k in range(length) if k not in kept]
                    paper = tuple((k, ways[0] if ways else ()) for k, ways in entries)
                    self.assertIs(shows_lightest(many, offers, (kept, paper)), right, (offers, kept))
            self.assertTrue(found)


class Otherwise(Shown):

    def test_kept_otherwise(self):
        for kept in ((), (0, 1), (0, 2), (1, 2), (0, 1, 2, 3), (0, 1, 2, 6), (0, 0, 1, 2), (0, 2, 1), (2, 1, 0), (1, 0, 2), (0, 1, 3),
                     (0, 1, 2, 7), (-1, 0, 1, 2), (0, 1, 2, LARGE), (0, 1, 5), (0, 2, 4), (0, 1, 2, 5)):
            self.no(4, OFFERS, (kept, PAPER))
            paper = tuple((k, ()) for k in range(7) if k not in kept)
            self.no(4, OFFERS, (kept, paper))

    def test_rings_of_kept_ones(self):
        self.no(1, ((0, 0, 0),), ((0,), ()))
        self.yes(1, ((0, 0, 0),), ((), ((0, ()),)))
        self.no(2, ((0, 1, 0), (1, 0, 0)), ((0, 1), ()))
        self.no(2, ((0, 1, 0), (0, 1, 0)), ((0, 1), ()))
        self.no(3, ((0, 1, 0), (1, 2, 0), (0, 2, 0)), ((0, 1, 2), ()))
        self.no(3, ((0, 1, 0), (1, 2, 0), (2, 2, 0)), ((0, 1, 2), ()))

    def test_paper_rows_otherwise(self):
        for at, entry in enumerate(PAPER):
            self.no(4, OFFERS, (KEPT, PAPER[:at] + PAPER[at + 1:]))
            self.no(4, OFFERS, (KEPT, PAPER[:at] + (entry, entry) + PAPER[at + 1:]))
            self.no(4, OFFERS, (KEPT, PAPER + (entry,)))
            for other in range(at):
                self.no(4, OFFERS, (KEPT, with_part(with_part(PAPER, at, PAPER[other]), other, entry)))
            for number in (*range(-1, 9), LARGE):
                if number != entry[0]:
                    self.no(4, OFFERS, (KEPT, with_part(PAPER, at, (number, entry[1]))))
            for k in KEPT:
                self.no(4, OFFERS, (KEPT, PAPER[:at] + ((k, ()),) + PAPER[at:]))
            self.no(4, OFFERS, (KEPT, with_part(PAPER, at, entry[:1])))
            self.no(4, OFFERS, (KEPT, with_part(PAPER, at, (*entry, ()))))
            self.no(4, OFFERS, (KEPT, with_part(PAPER, at, entry[::-1])))
        self.no(4, OFFERS, (KEPT, PAPER[::-1]))
        self.no(4, OFFERS, (KEPT, ()))
        self.no(4, OFFERS, (KEPT, ((0, (0,)), (1, (1,)), (2, (2,)), *PAPER)))

    def test_numbers_that_lead_elsewhere(self):
        ways = [numbers for size in range(4) for numbers in itertools.product(range(-1, 8), repeat=size)]
        for at, entry in enumerate(PAPER):
            for numbers in ways:
                if numbers != entry[1]:
                    self.no(4, OFFERS, (KEPT, with_part(PAPER, at, (entry[0], numbers))))

    def test_numbers_below_nought(self):
        """A number from the end is none of an offer."""
        self.no(3, ((0, 1, 1), (1, 2, 1)), ((-1, 0), ((1, (-1,)),)))
        self.no(3, ((0, 1, 1), (1, 2, 1), (2, 1, 1)), ((0, 1), ((2, (-2,)),)))

    def test_a_price_is_no_point(self):
        self.no(3, ((0, 1, 2), (2, 0, 5)), ((0,), ((1, (0,)),)))
        self.no(3, ((0, 1, 2), (0, 2, 5)), ((0,), ((1, (0,)),)))

    def test_the_way_back(self):
        self.no(4, OFFERS, (KEPT, with_part(PAPER, 0, (3, (2, 1, 0)))))
        self.no(4, OFFERS, (KEPT, with_part(PAPER, 1, (4, (0, 1, 2)))))

    def test_to_and_fro(self):
        self.no(4, OFFERS, (KEPT, with_part(PAPER, 2, (5, (1, 1, 1)))))
        self.no(4, OFFERS, (KEPT, with_part(PAPER, 2, (5, (2, 2, 1)))))
        self.no(4, OFFERS, (KEPT, with_part(PAPER, 3, (6, (1, 1)))))

    def test_dearer_ones(self):
        for at, price in ((3, 6), (4, 6), (5, 6), (3, 0), (5, 0)):
            offers = with_part(OFFERS, at, (*OFFERS[at][:2], price))
            self.no(4, offers, (KEPT, PAPER))
        for at in KEPT:
            self.no(4, with_part(OFFERS, at, (*OFFERS[at][:2], 10)), (KEPT, PAPER))
        self.yes(4, with_part(OFFERS, 4, (3, 0, 7)), (KEPT, PAPER))
        self.no(4, with_part(OFFERS, 4, (3, 0, 6)), (KEPT, PAPER))

    def test_one_thing_otherwise_as_by_words(self):
        chance = random.Random(1)
        for many, offers in [pair for pair in middling_offers() if 0 < len(pair[1]) <= 15]:
            kept = all_kept(offers)[-1][0]
            paper = the_paper(offers, kept)
            for k in range(40):
                other_kept, other_paper = list(kept), [list(entry) for entry in paper]
                entry = chance.choice(other_paper) if other_paper else [0, ()]
                numbers = list(entry[1])
                chosen = chance.choice((other_kept, numbers))
                act = chance.randrange(4)
                if act == 0 and chosen:
                    chosen.pop(chance.randrange(len(chosen)))
                elif act == 1 and chosen:
                    chosen[chance.randrange(len(chosen))] = chance.randrange(len(offers))
                elif act == 2:
                    chosen.insert(chance.randint(0, len(chosen)), chance.randrange(len(offers)))
                else:
                    chance.shuffle(chosen)
                entry[1] = tuple(numbers)
                thing = (tuple(other_kept), tuple(tuple(entry) for entry in other_paper))
                self.assertIs(shows_lightest(many, offers, thing), right_by_words(offers, *thing), (offers, thing))

    def test_lists_for_tuples(self):
        self.no(4, OFFERS, [KEPT, PAPER])
        self.no(4, OFFERS, (list(KEPT), PAPER))
        self.no(4, OFFERS, (KEPT, list(PAPER)))
        self.no(4, OFFERS, (set(KEPT), PAPER))
        self.no(4, OFFERS, (KEPT, dict(PAPER)))
        for at, (number, numbers) in enumerate(PAPER):
            self.no(4, OFFERS, (KEPT, with_part(PAPER, at, [number, numbers])))
            self.no(4, OFFERS, (KEPT, with_part(PAPER, at, (number, list(numbers)))))

    def test_truths_for_numbers(self):
        self.no(4, OFFERS, ((False, 1, 2), PAPER))
        self.no(4, OFFERS, ((0, True, 2), PAPER))
        self.no(4, OFFERS, (KEPT, with_part(PAPER, 0, (3, (False, 1, 2)))))
        self.no(4, OFFERS, (KEPT, with_part(PAPER, 2, (5, (True,)))))
        self.no(4, OFFERS, (KEPT, with_part(PAPER, 2, (5, (1.0,)))))
        self.no(4, OFFERS, (KEPT, with_part(PAPER, 2, (5.0, (1,)))))
        offers = ((1, 1, 0), (1, 1, 3), (0, 1, 2))
        self.yes(2, offers, ((2,), ((0, ()), (1, ()))))
        self.no(2, offers, ((2,), ((False, ()), (1, ()))))
        self.no(2, offers, ((2,), ((0, ()), (True, ()))))

    def test_things_of_any_kind(self):
        for thing in [*odd_things(), 7, -1, "kept"]:
            self.no(4, OFFERS, thing)
            self.no(4, OFFERS, (thing, thing))
            self.no(4, OFFERS, (thing, PAPER))
            self.no(4, OFFERS, (KEPT, thing))
            self.no(4, OFFERS, (KEPT, PAPER, thing))
            self.no(4, OFFERS, ((*KEPT, thing), PAPER))
            self.no(4, OFFERS, ((thing, *KEPT), PAPER))
            for at, entry in enumerate(PAPER):
                self.no(4, OFFERS, (KEPT, with_part(PAPER, at, thing)))
                self.no(4, OFFERS, (KEPT, with_part(PAPER, at, (thing, entry[1]))))
                self.no(4, OFFERS, (KEPT, with_part(PAPER, at, (entry[0], (thing,)))))
                if repr(thing) != repr(entry[1]):
                    self.no(4, OFFERS, (KEPT, with_part(PAPER, at, (entry[0], thing))))
        for depth in (1, 2, 26):
            self.no(4, OFFERS, nested(tuple, depth, (KEPT, PAPER)))
            self.no(4, OFFERS, nested(list, depth, (KEPT, PAPER)))

    def test_nothing_is_changed(self):
        offers, right = copy.deepcopy(OFFERS), copy.deepcopy((KEPT, PAPER))
        for thing in [*fixed(odd_things()), [list(KEPT), list(PAPER)], (list(KEPT), PAPER), (KEPT, [[3, [0, 1, 2]]]), right]:
            kept = repr(thing)
            shows_lightest(4, offers, thing)
            self.assertEqual(repr(thing), kept)
        self.assertEqual((offers, right), (OFFERS, (KEPT, PAPER)))


if __name__ == "__main__":
    unittest.main()
