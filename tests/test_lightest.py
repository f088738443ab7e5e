"""Points [2], [3] (g), [21] and [22]: the class Lightest."""

import itertools
import unittest

from tests.keeping import outcome
from tests.makers import odd_things
from tests.offerbrute import all_kept, least_price, parts_by, the_paper, the_slacks
from tests.offermakers import all_offers, by_chance, great_offers, middling_offers
from tests.rowmakers import LARGE
from tiedcut.lightest import Lightest
from tiedcut.lightpapers import shows_lightest


def told(lightest):
    """All that is told."""
    return (lightest.kept(), lightest.price(), lightest.slacks(), lightest.paper())


def filled(many, offers):
    lightest = Lightest(many)
    for offer in offers:
        lightest.offer(*offer)
    return lightest


class Told(unittest.TestCase):

    def check_step(self, lightest, offers, kept):
        """All that is told behind some offers is as reckoned otherwise, and asked twice the same."""
        expected = (kept, sum(offers[k][2] for k in kept), the_slacks(offers, kept), the_paper(offers, kept))
        self.assertEqual(repr(told(lightest)), repr(expected), offers)
        self.assertEqual(repr(told(lightest)), repr(expected), offers)

    def check_offers(self, many, offers, each=True):
        lightest = Lightest(many)
        self.check_step(lightest, (), ())
        for number, (kept, gone) in enumerate(all_kept(offers)):
            self.assertEqual(repr(lightest.offer(*offers[number])), repr(gone), offers[:number + 1])
            if each or number % 50 == 49:
                self.check_step(lightest, offers[:number + 1], kept)

    def test_nothing_offered(self):
        for many in (1, 2, 100):
            self.assertEqual(told(Lightest(many)), ((), 0, (), ()))

    def test_the_named_rules(self):
        lightest = Lightest(4)
        self.assertIsNone(lightest.offer(0, 1, 5))
        self.assertIsNone(lightest.offer(1, 2, 7))
        self.assertIsNone(lightest.offer(2, 3, 7))
        self.assertEqual(lightest.price(), 19)
        # As dear as the dearest one on the way: the new one goes.
        self.assertEqual(lightest.offer(0, 3, 7), 3)
        # Two of 7 on the way are dearer than 6: the first one from a goes, from 3 that is number 2.
        self.assertEqual(lightest.offer(3, 0, 6), 2)
        self.assertEqual(lightest.kept(), (0, 1, 4))
        # On the way from 3 by 0 and 1 to 2 number 1 is the dearest one.
        self.assertEqual(lightest.offer(3, 2, 0), 1)
        self.assertEqual(lightest.kept(), (0, 4, 5))
        self.assertEqual(lightest.offer(2, 2, 0), 6)
        self.assertEqual(lightest.paper(), ((1, (0, 4, 5)), (2, (5,)), (3, (4,)), (6, ())))
        self.assertEqual(lightest.slacks(), (7, 6, 0, 6, 7, 7, None))
        self.assertEqual(lightest.price(), 11)

    def test_the_first_from_a(self):
        for a, b, gone in ((0, 2, 0), (2, 0, 1)):
            lightest = filled(3, ((0, 1, 4), (1, 2, 4)))
            self.assertEqual(lightest.offer(a, b, 3), gone)

    def test_the_same_two_points_again_and_again(self):
        lightest = Lightest(2)
        prices = (5, 5, 4, 6, 4, 3, 3, 0, 0)
        gone = (None, 1, 0, 3, 4, 2, 6, 5, 8)
        for number, price in enumerate(prices):
            self.assertEqual(lightest.offer(number % 2, 1 - number % 2, price), gone[number])
        self.assertEqual(lightest.kept(), (7,))
        self.assertEqual(lightest.slacks(), (0, 0, 0, 0, 0, 0, 0, 0, 0))

    def test_a_to_a(self):
        lightest = Lightest(3)
        for number in range(4):
            self.assertEqual(lightest.offer(number % 3, number % 3, number), number)
        self.assertEqual(told(lightest), ((), 0, (None,) * 4, tuple((k, ()) for k in range(4))))

    def test_one_let_go_never_comes_back(self):
        """A kept one that was dearest is let go for good, though the way that it was on is changed later."""
        for many, offers in middling_offers():
            gone = set()
            lightest = Lightest(many)
            for offer in offers:
                gone.add(lightest.offer(*offer))
                self.assertFalse(gone & set(lightest.kept()))
                self.assertEqual(len(gone - {None}) + len(lightest.kept()), len(lightest.slacks()))

    def test_all_rows_of_few_offers(self):
        for many, length, prices in ((1, 3, (0, 1)), (2, 3, (0, 1)), (3, 2, (0, 1, 2)), (3, 3, (1, 2))):
            for offers in all_offers(many, length, prices):
                self.check_offers(many, offers)

    def test_all_sorts(self):
        for many, offers in middling_offers():
            self.check_offers(many, offers)

    def test_great_ones(self):
        for many, offers in great_offers():
            self.check_offers(many, offers, False)

    def test_numbers_of_thirty_figures(self):
        offers = by_chance(6, 20, 9, (LARGE, LARGE - 1, LARGE // 2, 1, 0))
        self.check_offers(6, offers)
        self.assertEqual(filled(3, ((0, 1, LARGE), (1, 2, LARGE))).price(), 2 * LARGE)

    def test_beyond_the_limits(self):
        offers = by_chance(120, 260, 3, (*range(9), 10 ** 40))
        lightest = filled(120, offers)
        self.assertIs(shows_lightest(120, offers, (lightest.kept(), lightest.paper())), True)


class Least(unittest.TestCase):

    def test_no_set_that_joins_as_much_is_less_dear(self):
        for many, length in itertools.product((1, 2, 3, 4), (1, 3, 6, 8)):
            for seed, prices in enumerate([(0, 1), (1, 2, 3), (0, 5, 6, 7), range(20)]):
                offers = by_chance(many, length, f"least {seed}", prices)
                self.assertEqual(filled(many, offers).price(), least_price(many, offers), offers)

    def test_all_is_joined_that_can_be_joined(self):
        for many, offers in middling_offers():
            kept = filled(many, offers).kept()
            self.assertEqual(parts_by(many, offers, kept), parts_by(many, offers, range(len(offers))))
            self.assertEqual(len(kept), many - len(parts_by(many, offers, kept)))

    def test_the_paper_is_shown_at_each_step(self):
        for many, offers in middling_offers():
            lightest = Lightest(many)
            for number, offer in enumerate(offers, 1):
                lightest.offer(*offer)
                self.assertIs(shows_lightest(many, offers[:number], (lightest.kept(), lightest.paper())), True)

    def test_slacks_tell_what_would_be_let_go(self):
        """A kept one as dear as its slack stays least; one more, and another set is less dear."""
        for seed in range(12):
            offers = by_chance(4, 7, f"slack {seed}", (1, 2, 3, 4))
            lightest = filled(4, offers)
            for number in lightest.kept():
                slack = lightest.slacks()[number]
                a, b, price = offers[number]
                rest = lightest.price() - price
                if slack is None:
                    dear = offers[:number] + ((a, b, 1000),) + offers[number + 1:]
                    self.assertEqual(least_price(4, dear), rest + 1000)
                else:
                    self.assertGreaterEqual(slack, price)
                    dear = offers[:number] + ((a, b, slack + 1),) + offers[number + 1:]
                    self.assertEqual(least_price(4, dear), rest + slack)


class Refused(unittest.TestCase):

    OFFERS = ((0, 1, 3), (1, 2, 4), (2, 0, 3), (3, 3, 0))

    def check_refused(self, lightest, offer, word):
        ahead = repr(told(lightest))
        self.assertEqual(outcome(lightest.offer, *offer), ("refused", word), repr(offer))
        self.assertEqual(repr(told(lightest)), ahead)

    def test_no_row(self):
        lightest = filled(4, self.OFFERS)
        for thing in [*odd_things(), "0", (0,), [0], 0.0]:
            for offer in ((thing, 1, 2), (0, thing, 2), (0, 1, thing), (thing, thing, thing)):
                self.check_refused(lightest, offer, "NoRow")
        for price in (-1, -LARGE, True, False, None):
            self.check_refused(lightest, (0, 1, price), "NoRow")
        for truth in (True, False):
            self.check_refused(lightest, (truth, 1, 1), "NoRow")
            self.check_refused(lightest, (1, truth, 1), "NoRow")

    def test_no_point(self):
        lightest = filled(4, self.OFFERS)
        for number in (4, 5, -1, -4, LARGE, -LARGE):
            for offer in ((number, 1, 2), (1, number, 2), (number, number, 2), (number, number, 0)):
                self.check_refused(lightest, offer, "NoPoint")

    def test_no_row_comes_first(self):
        lightest = filled(4, self.OFFERS)
        for offer in ((4, 0, -1), (0, -1, True), (9, "0", 1), (None, 9, 1), (9, 9, None), (-1, False, 0)):
            self.check_refused(lightest, offer, "NoRow")

    def test_numbers_go_on_behind_a_refusal(self):
        lightest = Lightest(2)
        self.assertEqual(outcome(lightest.offer, 0, 2, 1), ("refused", "NoPoint"))
        self.assertIsNone(lightest.offer(0, 1, 9))
        self.assertEqual(outcome(lightest.offer, 0, 1, -1), ("refused", "NoRow"))
        self.assertEqual(lightest.offer(0, 1, 8), 0)
        self.assertEqual(lightest.kept(), (1,))

    def test_refused_ones_between_others_change_nothing(self):
        for many, offers in middling_offers()[::4]:
            plain, other = Lightest(many), Lightest(many)
            for offer in offers:
                outcome(other.offer, many, 0, 0)
                outcome(other.offer, 0, 0, -1)
                self.assertEqual(plain.offer(*offer), other.offer(*offer))
                self.assertEqual(told(plain), told(other))

    def test_two_of_them_have_nothing_in_common(self):
        one, other = Lightest(3), Lightest(3)
        one.offer(0, 1, 1)
        self.assertEqual(told(other), ((), 0, (), ()))
        self.assertEqual(one.kept(), (0,))


if __name__ == "__main__":
    unittest.main()
