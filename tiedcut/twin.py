"""Both keepers of a forest together, which can go back."""

from tiedcut.errors import NoDeed, NoPlace, TreeError
from tiedcut.plainrows import asked_side, asked_way, plain_do
from tiedcut.roundrows import ROUND_ROWS
from tiedcut.rounds import Rounds
from tiedcut.rows import is_deed, refuse_unfit
from tiedcut.walking import least_points
from tiedcut.wayrows import WAY_ROWS
from tiedcut.ways import Ways
from tiedcut.wholes import is_whole


class Twin:
    """A Ways and a Rounds of one forest, and all deeds that led to it.

    deeds: the rows of the deeds that aren't undone. forests: the forest at first, and behind each of these.
    """

    def __init__(self, forest):
        self.ways = Ways(forest)
        self.rounds = Rounds(forest)
        self.deeds = []
        self.forests = [forest]

    def do(self, row):
        """What a row is told, as the plain forest tells it."""
        refuse_unfit(row, len(self.forest()[0]))
        told = self.carry_out(row)
        if is_deed(row):
            self.forests.append(plain_do(self.forest(), row)[0])
            self.deeds.append(row)
        return told

    def carry_out(self, row):
        """Have the keepers do a row that is one by its form, of points that are there: what it is told."""
        if row[0] in WAY_ROWS and row[0] in ROUND_ROWS:
            return self.do_by_both(row)
        keeper = self.ways if row[0] in WAY_ROWS else self.rounds
        told = keeper.do(row)
        if row[0] == "add":
            self.put_by_put(self.rounds, asked_way(self.forest(), row[1], row[2]), row[3])
        if row[0] == "spread":
            self.put_by_put(self.ways, asked_side(self.forest(), row[1], row[2]), row[3])
        return told

    def do_by_both(self, row):
        """Have both keepers do a row that both do: what it is told."""
        try:
            self.ways.do(row)
        except TreeError:
            # Refused or not, both do it: the other one refuses it alike.
            self.rounds.do(row)
            raise
        return self.rounds.do(row)

    def put_by_put(self, keeper, chosen, x):
        """Have a keeper add x to the worths of the chosen points, one by one."""
        points = self.forest()[0]
        for p in chosen:
            keeper.do(("put", p, points[p][0] + x))

    def forest(self):
        """The forest as it is."""
        return self.forests[-1]

    def looks(self):
        """A pair: the looks of the Ways and of the Rounds."""
        return (self.ways.looks(), self.rounds.looks())

    def book(self):
        """A pair: the shape of the Ways, and a tuple of a round of each part, begun with its least point."""
        return (self.ways.shape(), tuple([self.rounds.round(p) for p in least_points(self.forest())]))

    def back(self):
        """Undo the last deed: its row, as it was handed in."""
        if len(self.deeds) == 0:
            raise NoDeed()
        row = self.deeds[-1]
        self.undo(row, self.forests[-2])
        self.forests.pop()
        self.deeds.pop()
        return row

    def undo(self, row, ahead):
        """Have the keepers undo the last deed, ahead being the forest ahead of it."""
        if row[0] == "new":
            self.ways.forget()
            self.rounds.forget()
        else:
            self.carry_out(undoing(row, ahead))

    def done(self):
        """The tuple of the deeds that aren't undone, in order."""
        return tuple(self.deeds)

    def at(self, k):
        """The forest behind the first k, of anything, of the deeds that aren't undone."""
        if not is_whole(k) or not 0 <= k <= len(self.deeds):
            raise NoPlace()
        return self.forests[k]


def undoing(row, ahead):
    """The row that undoes a deed, which isn't new, ahead being the forest ahead of it."""
    word = row[0]
    if word == "put":
        return ("put", row[1], ahead[0][row[1]][0])
    if word == "paint":
        return ("paint", row[1], ahead[0][row[1]][1])
    if word == "tie":
        return ("cut", row[1], row[2])
    if word == "cut":
        return ("tie", row[1], row[2])
    return (word, row[1], row[2], -row[3])
