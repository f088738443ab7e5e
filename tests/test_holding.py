"""Points [2], [3] (g) and [24]: the class Holding."""

import itertools
import unittest

from tests.keeping import outcome
from tests.makers import great_forests, middling_forests, odd_things
from tests.offerbrute import the_holding, the_right_entry
from tests.offermakers import all_offers, by_chance, great_offers, middling_offers, pairs_of
from tests.rowmakers import LARGE
from tiedcut.holding import Holding


def filled(many, offers):
    holding = Holding(many)
    for offer in offers:
        holding.offer(*offer)
    return holding


def told(holding):
    """All that is told."""
    paper = holding.paper()
    return (holding.holding(), paper, [holding.holds(number) for number in range(len(paper))])


class Told(unittest.TestCase):

    def check_step(self, holding, many, offers):
        """All that is told of these offers is as reckoned otherwise, and asked twice the same."""
        expected = the_holding(offers)
        self.assertEqual(repr(holding.holding()), repr(expected), offers)
        for number in range(len(offers)):
            self.assertIs(holding.holds(number), number in expected)
        paper = holding.paper()
        self.assertIsInstance(paper, tuple)
        self.assertEqual(len(paper), len(offers))
        for number, entry in enumerate(paper):
            self.assertIsInstance(entry, tuple)
            self.assertIsInstance(entry[1], tuple)
            self.assertEqual([x.__class__ for x in entry[1]], [int] * len(entry[1]))
            self.assertEqual(entry[0], "holds" if number in expected else "round")
            self.assertTrue(the_right_entry(many, offers, number, entry), (offers, number, entry))
        self.assertEqual(repr(holding.holding()), repr(expected))
        self.assertEqual(holding.paper(), paper)

    def check_offers(self, many, offers, each=True):
        holding = Holding(many)
        self.check_step(holding, many, ())
        for number, offer in enumerate(offers, 1):
            self.assertIsNone(holding.offer(*offer))
            if each or number % 60 == 59 or number == len(offers):
                self.check_step(holding, many, offers[:number])

    def test_nothing_offered(self):
        for many in (1, 2, 100):
            self.assertEqual(told(Holding(many)), ((), (), []))

    def test_named_ones(self):
        # A ring of 0, 1 and 2, from it one to 3, from there two to 4, and one of 5 alone.
        holding = filled(6, ((0, 1), (1, 2), (2, 0), (2, 3), (3, 4), (4, 3), (5, 5)))
        self.assertEqual(holding.holding(), (3,))
        self.assertEqual(holding.paper(), (
            ("round", (2, 1)), ("round", (0, 2)), ("round", (1, 0)), ("holds", (0, 1, 2)), ("round", (5,)), ("round", (4,)), ("round", ())))
        holding.offer(5, 4)
        self.assertEqual(holding.holding(), (3, 7))
        self.assertEqual(holding.paper()[7], ("holds", (5,)))
        holding.offer(0, 5)
        self.assertEqual(holding.holding(), ())

    def test_several_between_the_same_points(self):
        holding = filled(2, ((0, 1),))
        self.assertIs(holding.holds(0), True)
        for pair in ((0, 1), (1, 0), (0, 1)):
            holding.offer(*pair)
            self.assertEqual(holding.holding(), ())

    def test_a_to_a_never_holds(self):
        holding = filled(3, ((0, 0), (1, 1), (0, 0), (0, 1)))
        self.assertEqual(holding.holding(), (3,))
        self.assertEqual(holding.paper()[:3], (("round", ()),) * 3)

    def test_ties_of_forests_all_hold(self):
        for points, ties in [*middling_forests(), *great_forests()[:5:2]]:
            holding = filled(len(points), ties)
            self.assertEqual(holding.holding(), tuple(range(len(ties))))
            for number, entry in enumerate(holding.paper()):
                self.assertTrue(the_right_entry(len(points), ties, number, entry))

    def test_all_rows_of_few_offers(self):
        for many, length in ((1, 3), (2, 4), (3, 3)):
            for offers in all_offers(many, length, (0,)):
                self.check_offers(many, pairs_of(offers))

    def test_all_sorts(self):
        for many, offers in middling_offers():
            self.check_offers(many, pairs_of(offers))

    def test_great_ones(self):
        for many, offers in great_offers():
            self.check_offers(many, pairs_of(offers), False)
        self.check_offers(100, pairs_of(by_chance(100, 90, "few")), False)

    def test_beyond_the_limits(self):
        offers = pairs_of(by_chance(130, 150, "more"))
        self.check_step(filled(130, offers), 130, offers)


class Refused(unittest.TestCase):

    OFFERS = ((0, 1), (1, 2), (2, 0), (2, 3), (3, 3))

    def check_refused(self, holding, do, things, word):
        ahead = repr(told(holding))
        self.assertEqual(outcome(do, *things), ("refused", word), repr(things))
        self.assertEqual(repr(told(holding)), ahead)

    def test_no_row(self):
        holding = filled(4, self.OFFERS)
        for thing in [*odd_things(), "0", (0,), [0], 0.0, True, False]:
            for pair in ((thing, 1), (0, thing), (thing, thing), (thing, 9), (-1, thing)):
                self.check_refused(holding, holding.offer, pair, "NoRow")

    def test_no_point(self):
        holding = filled(4, self.OFFERS)
        for number in (4, 5, -1, -4, LARGE, -LARGE):
            for pair in ((number, 1), (1, number), (number, number)):
                self.check_refused(holding, holding.offer, pair, "NoPoint")

    def test_no_place(self):
        holding = filled(4, self.OFFERS)
        for thing in [*odd_things(), "0", (0,), [0], 0.0, True, False, 5, 6, -1, -5, LARGE, -LARGE]:
            self.check_refused(holding, holding.holds, (thing,), "NoPlace")
        for number in (0, -1, True):
            self.check_refused(Holding(3), Holding(3).holds, (number,), "NoPlace")

    def test_numbers_go_on_behind_a_refusal(self):
        holding = Holding(2)
        self.assertEqual(outcome(holding.offer, 0, 2), ("refused", "NoPoint"))
        self.assertEqual(outcome(holding.offer, 0, None), ("refused", "NoRow"))
        self.assertEqual(outcome(holding.holds, 0), ("refused", "NoPlace"))
        holding.offer(0, 1)
        self.assertIs(holding.holds(0), True)
        self.assertEqual(outcome(holding.holds, 1), ("refused", "NoPlace"))

    def test_two_of_them_have_nothing_in_common(self):
        one, other = Holding(3), Holding(3)
        for a, b in itertools.permutations(range(3), 2):
            one.offer(a, b)
        self.assertEqual(told(other), ((), (), []))


if __name__ == "__main__":
    unittest.main()
