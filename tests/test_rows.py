"""Points [7] and [8]: is_row, is_deed and plain_word."""

import copy
import unittest

from tests.makers import fixed, nested, odd_things
from tests.rowmakers import DEEDS, FORMS, LARGE, RIGHT, right_row, with_part
from tiedcut.errors import Apart, NoDeed, NoForest, NoLine, NoPlace, NoPoint, NoRow, NoText, NoTie, Ring, TreeError
from tiedcut.rows import is_deed, is_row, plain_word

# Right for some places and wrong for others; what odd_things has besides is wrong for each.
TRIED = [None, 0, 1, -1, 7, LARGE, -LARGE, *"abcdefgh", "i", "A", "-", "0"]


def is_right(form, thing):
    """Whether one of those tried is right for this form."""
    if form == "kind":
        return thing in tuple("abcdefgh")
    if thing is None:
        return form == "maybe"
    return isinstance(thing, int) and (form != "place" or thing >= 0)


class Rows(unittest.TestCase):

    def test_there_are_seven_deeds_and_thirteen_asks(self):
        self.assertEqual((len(DEEDS), len(FORMS)), (7, 20))

    def test_each_word_with_right_parts(self):
        for word, forms in FORMS.items():
            self.assertIs(is_row(right_row(word)), True, word)
            for at, form in enumerate(forms, 1):
                for part in RIGHT[form]:
                    row = right_row(word)
                    self.assertIs(is_row(with_part(row, at, part)), True, (row, at, part))

    def test_each_word_with_another_thing_in_each_place(self):
        for word, forms in FORMS.items():
            row = right_row(word)
            for at, form in enumerate(forms, 1):
                for part in TRIED:
                    self.assertIs(is_row(with_part(row, at, part)), is_right(form, part), (row, at, part))
                for part in odd_things():
                    expected = form == "maybe" and part is None
                    self.assertIs(is_row(with_part(row, at, part)), expected)

    def test_a_part_more_or_fewer(self):
        for word in FORMS:
            row = right_row(word)
            for size in range(len(row)):
                self.assertIs(is_row(row[:size]), False, row[:size])
            for part in (0, 1, None, "a", (), word):
                self.assertIs(is_row((*row, part)), False)
                self.assertIs(is_row((part, *row)), False)

    def test_none_only_as_q(self):
        self.assertIs(is_row(("sum", 0, None)), True)
        self.assertIs(is_row(("sum", None, 0)), False)
        self.assertIs(is_row(("sum", None, None)), False)
        self.assertIs(is_row(("way", 0, None)), False)
        self.assertIs(is_row(("spread", 0, None, None)), False)
        self.assertIs(is_row(("spread", 0, None, 4)), True)
        self.assertIs(is_row(("least", 0, None, "a")), True)
        self.assertIs(is_row(("least", 0, "a")), False)

    def test_k_below_nought(self):
        self.assertIs(is_row(("kth", 0, 0, 0)), True)
        for k in (-1, -2, -LARGE, True, False, None):
            self.assertIs(is_row(("kth", 0, 0, k)), False)

    def test_truths_are_no_whole_numbers(self):
        for word, forms in FORMS.items():
            row = right_row(word)
            for at in range(1, len(row)):
                for truth in (True, False):
                    self.assertIs(is_row(with_part(row, at, truth)), False)

    def test_another_word(self):
        others = ["", "New", "NEW", "new ", " new", "ne", "news", "back", "at", "paper", "check", "rows", "forest", "round"]
        for other in [*others, None, 0, True, ("tie",), b"tie", *odd_things()]:
            for word in FORMS:
                self.assertIs(is_row((other, *right_row(word)[1:])), False)
            self.assertIs(is_row((other,)), False)

    def test_a_list(self):
        for word in FORMS:
            row = right_row(word)
            self.assertIs(is_row(list(row)), False)
            self.assertIs(is_row((word, row[1:])), False)
            self.assertIs(is_row((word, list(row[1:]))), False)
            self.assertIs(is_row((row,)), False)
            self.assertIs(is_row(word), False)

    def test_things_of_any_kind(self):
        for thing in [*odd_things(), 0, 1, "tie", "tie 0 1", LARGE]:
            self.assertIs(is_row(thing), False)
        for depth in range(1, 29):
            self.assertIs(is_row(nested(tuple, depth, ("tie", 0, 1))), False)
            self.assertIs(is_row(("tie", nested(tuple, depth, 0), 1)), False)

    def test_nothing_is_changed(self):
        for thing in [*fixed(odd_things()), ["tie", 0, 1], ("tie", [0], 1), ("new", 0, ["a"])]:
            kept = copy.deepcopy(thing)
            is_row(thing)
            self.assertEqual(repr(thing), repr(kept))


class Deeds(unittest.TestCase):

    def test_every_word(self):
        for word in FORMS:
            self.assertIs(is_deed(right_row(word)), word in DEEDS, word)


class Refused(unittest.TestCase):

    def test_every_refusal(self):
        for refusal in (NoRow, NoPoint, Ring, NoTie, Apart, NoPlace, NoDeed, NoForest, NoLine):
            self.assertEqual(plain_word(refusal()), refusal.__name__)
        for line in (0, 1, 30):
            self.assertEqual(plain_word(NoText(line)), "NoText")
        self.assertEqual(plain_word(TreeError()), "TreeError")


if __name__ == "__main__":
    unittest.main()
