"""Point [3], over the whole program: all that keeps a forest, side by side."""

import random
import unittest

from tests.keeping import asks_of, fitting_row, outcome, plain_outcome
from tests.makers import FORK, great_forests, middling_forests, straight
from tests.offermakers import great_offers, middling_offers, pairs_of
from tests.rowmakers import DEEDS, FORMS
from tiedcut.books import shows_book
from tiedcut.desk import Desk
from tiedcut.foresttexts import read_forest, show_forest
from tiedcut.holding import Holding
from tiedcut.holdpapers import shows_holding
from tiedcut.lightest import Lightest
from tiedcut.lightpapers import shows_lightest
from tiedcut.plainrows import plain_rows
from tiedcut.roundmarks import is_round
from tiedcut.rounds import Rounds, rounds_bound
from tiedcut.rowtexts import read_row, show_row, show_told
from tiedcut.tiedpapers import shows_tied, tied_paper
from tiedcut.twin import Twin
from tiedcut.ways import Ways
from tiedcut.wayshapes import ties_of_shape, ways_bound

WORDS = tuple(FORMS)
NOT_OF_WAYS = ("spread", "top", "least")
OF_ROUNDS = ("new", "put", "paint", "tie", "cut", "spread", "joined", "sum", "size", "top", "least")


class Play:
    """A forest, and all that keeps it: a Ways and a Rounds are begun anew behind what they can't do or undo."""

    def __init__(self, test, forest):
        self.test = test
        self.forests = [forest]
        self.deeds = []
        self.rows = []
        self.twin = Twin(forest)
        self.desk = Desk()
        test.assertEqual(self.desk.say("forest " + show_forest(forest).replace("\n", " / ")), "done")
        self.begin_keepers()

    def begin_keepers(self):
        self.ways = Ways(self.forests[-1])
        self.rounds = Rounds(self.forests[-1])

    def do(self, row):
        """Done by all, told and refused alike."""
        behind, expected = plain_outcome(self.forests[-1], row)
        where = (self.forests[-1], row)
        self.test.assertEqual(repr(outcome(self.twin.do, row)), repr(expected), where)
        answer = ("told", show_told(row, expected[1])) if expected[0] == "told" else expected
        self.test.assertEqual(outcome(self.desk.say, show_row(row)), answer, where)
        self.do_by(self.ways, row, row[0] not in NOT_OF_WAYS, expected, ways_bound(len(behind[0])))
        self.do_by(self.rounds, row, row[0] in OF_ROUNDS, expected, rounds_bound(len(behind[0])))
        if expected[0] == "told" and row[0] in DEEDS:
            self.deeds.append(row)
            self.forests.append(behind)
        if row[0] in ("add", "spread"):
            self.begin_keepers()
        self.rows.append(row)
        return expected

    def do_by(self, keeper, row, does, expected, bound):
        """A keeper tells a row as expected if it does such ones, with no more looks than the bound and its credit."""
        looks, credit = keeper.looks(), keeper.credit()
        self.test.assertEqual(repr(outcome(keeper.do, row)), repr(expected if does else ("refused", "NoRow")))
        self.test.assertLessEqual(keeper.looks() - looks, bound + credit - keeper.credit())

    def back(self):
        """The last deed undone, by all that can."""
        if self.deeds:
            row = self.deeds.pop()
            self.forests.pop()
            self.test.assertEqual(self.twin.back(), row)
            self.test.assertEqual(self.desk.say("back"), show_row(row))
            self.begin_keepers()
        else:
            self.test.assertEqual(outcome(self.twin.back), ("refused", "NoDeed"))
            self.test.assertEqual(outcome(self.desk.say, "back"), ("refused", "NoDeed"))

    def check(self):
        """All that is told of the forest is told alike, and shown."""
        test, forest = self.test, self.forests[-1]
        test.assertEqual(self.twin.forest(), forest)
        test.assertEqual(self.twin.done(), tuple(self.deeds))
        test.assertEqual(plain_rows(self.forests[0], self.twin.done())[0], forest)
        test.assertEqual(self.desk.say("rows"), show_forest(forest).replace("\n", " / "))
        test.assertIs(shows_book(forest, self.twin.book()), True)
        test.assertEqual(self.desk.say("check"), "yes")
        test.assertEqual(ties_of_shape(self.ways.shape()), forest[1])
        test.assertEqual(repr(read_forest(show_forest(forest))), repr(forest))
        for p in range(0, len(forest[0]), 7):
            test.assertIs(is_round(self.rounds.round(p)), True)
        for k in range(0, len(self.forests), 5):
            test.assertEqual(self.twin.at(k), self.forests[k])
            test.assertEqual(self.desk.say(f"at {k}"), show_forest(self.forests[k]).replace("\n", " / "))


def check_both_ways(test, keeper, forest, a, b):
    """Point [3] (e) and (b) of two points: the way back, and papers of one sort only."""
    there, back = outcome(keeper.do, ("way", a, b)), outcome(keeper.do, ("way", b, a))
    for word in ("joined", "total", "many"):
        test.assertEqual(outcome(keeper.do, (word, a, b)), outcome(keeper.do, (word, b, a)))
    most, other = outcome(keeper.do, ("most", a, b)), outcome(keeper.do, ("most", b, a))
    paper = tied_paper(forest, a, b)
    test.assertIs(shows_tied(forest, a, b, paper), True)
    if there[0] == "refused":
        test.assertEqual((there, back, most, other), (("refused", "Apart"),) * 4)
        test.assertEqual(paper[0], "apart")
    else:
        test.assertEqual(there[1], back[1][::-1])
        test.assertEqual(most[1][0], other[1][0])
        test.assertEqual(paper, ("way", there[1]))


class SideBySide(unittest.TestCase):

    def play(self, forest, seed, many, back=0.15, slack=1):
        chance = random.Random(seed)
        play = Play(self, forest)
        for k in range(many):
            if chance.random() < back:
                play.back()
            else:
                row = fitting_row(chance, play.forests[-1], WORDS, slack)
                self.assertEqual(repr(read_row(show_row(row))), repr(row))
                play.do(row)
        play.check()
        return play

    def test_all_sorts(self):
        for number, forest in enumerate([straight(1), FORK, *middling_forests()]):
            self.play(forest, number, 120)

    def test_a_hundred_points(self):
        for number, forest in enumerate(great_forests()):
            self.play(forest, number, 60)

    def test_a_thousand_rows(self):
        self.play(FORK, "many", 1000, 0.1).check()

    def test_gone_back_to_the_beginning_and_on_again(self):
        for number, forest in enumerate([FORK, *middling_forests()[::2]]):
            play = self.play(forest, f"back {number}", 60, 0.05)
            deeds, forests = list(play.deeds), list(play.forests)
            for turn in range(2):
                while play.deeds:
                    play.back()
                    if len(play.deeds) % 6 == 0:
                        play.check()
                self.assertEqual(play.forests, [forest])
                for row in deeds:
                    play.do(row)
                self.assertEqual(play.forests, forests)
                play.check()

    def test_rows_told_together(self):
        """The plain forest tells a tuple of rows as a twin tells them one by one."""
        for number, forest in enumerate(middling_forests()[::2]):
            play = self.play(forest, f"rows {number}", 80, 0)
            twin = Twin(forest)
            found = [outcome(twin.do, row) for row in play.rows]
            told = tuple(answer if kind == "told" else ("refused", answer) for kind, answer in found)
            self.assertEqual(repr(plain_rows(forest, tuple(play.rows))), repr((twin.forest(), told)))

    def test_the_way_back(self):
        for number, forest in enumerate([FORK, *middling_forests()]):
            play = self.play(forest, f"ways {number}", 40)
            now = play.forests[-1]
            chance = random.Random(number)
            for k in range(20):
                a, b = chance.randrange(len(now[0])), chance.randrange(len(now[0]))
                for keeper in (play.twin, play.ways):
                    check_both_ways(self, keeper, now, a, b)

    def test_asks_change_nothing_that_is_told(self):
        for number, forest in enumerate([FORK, *middling_forests()[::3]]):
            play = self.play(forest, f"asks {number}", 40)
            chance = random.Random(number)
            rows = [fitting_row(chance, play.forests[-1], asks_of(WORDS), 1) for k in range(40)]
            told = [play.do(row) for row in rows]
            self.assertEqual([play.do(row) for row in rows], told)
            self.assertEqual([play.do(row) for row in rows[::-1]], told[::-1])
            play.check()


class Offers(unittest.TestCase):

    def test_papers_are_shown(self):
        for many, offers in [*middling_offers(), *great_offers()]:
            lightest, holding = Lightest(many), Holding(many)
            for number, (a, b, price) in enumerate(offers, 1):
                lightest.offer(a, b, price)
                holding.offer(a, b)
                if number % 20 == 0 or number == len(offers) or number < 5:
                    self.assertIs(shows_lightest(many, offers[:number], (lightest.kept(), lightest.paper())), True)
                    self.assertIs(shows_holding(many, pairs_of(offers[:number]), holding.paper()), True)
                    # What holds two points together alone can't be let go.
                    self.assertLessEqual(set(holding.holding()), set(lightest.kept()))

    def test_kept_ones_are_a_forest(self):
        """The kept ones, handed on as ties, are a forest that joins just what the papers of all offers join."""
        for many, offers in middling_offers():
            lightest = Lightest(many)
            for offer in offers:
                lightest.offer(*offer)
            ties = tuple(sorted(tuple(sorted(offers[k][:2])) for k in lightest.kept()))
            twin = Twin((((0, "a"),) * many, ()))
            for a, b in ties:
                self.assertIsNone(twin.do(("tie", a, b)))
            self.assertEqual(twin.forest()[1], ties)
            self.assertIs(shows_book(twin.forest(), twin.book()), True)
            for a, b, price in offers:
                self.assertIs(twin.do(("joined", a, b)), True)


if __name__ == "__main__":
    unittest.main()
