"""Point [2] and the interface: the refusals."""

import unittest

from tiedcut import errors
from tiedcut.errors import Apart, NoDeed, NoForest, NoLine, NoPlace, NoPoint, NoRow, NoText, NoTie, Ring, TreeError

BARE = (NoRow, NoPoint, Ring, NoTie, Apart, NoPlace, NoDeed, NoForest, NoLine)


class Refusals(unittest.TestCase):

    def test_tree_error_is_straight_under_value_error(self):
        self.assertEqual(TreeError.__bases__, (ValueError,))

    def test_each_is_straight_under_tree_error(self):
        for refusal in (*BARE, NoText):
            self.assertEqual(refusal.__bases__, (TreeError,), refusal)

    def test_none_is_under_another(self):
        for low in (*BARE, NoText):
            for high in (*BARE, NoText):
                self.assertEqual(issubclass(low, high), low is high, (low, high))

    def test_each_is_made_without_anything(self):
        for refusal in BARE:
            made = refusal()
            self.assertIsInstance(made, TreeError)
            self.assertIsInstance(made, ValueError)

    def test_each_has_its_name(self):
        names = ["NoRow", "NoPoint", "Ring", "NoTie", "Apart", "NoPlace", "NoDeed", "NoForest", "NoLine"]
        self.assertEqual([refusal.__name__ for refusal in BARE], names)
        self.assertEqual((NoText.__name__, TreeError.__name__), ("NoText", "TreeError"))

    def test_each_is_raised_and_caught_as_itself_alone(self):
        for refusal in BARE:
            with self.assertRaises(refusal) as caught:
                raise refusal()
            self.assertIs(caught.exception.__class__, refusal)

    def test_no_text_has_its_line(self):
        for line in (0, 1, 7, 999, 10 ** 30):
            self.assertEqual(NoText(line).line, line)
        self.assertIsInstance(NoText(0), TreeError)
        with self.assertRaises(NoText) as caught:
            raise NoText(12)
        self.assertEqual(caught.exception.line, 12)

    def test_no_text_is_made_with_its_line_only(self):
        self.assertRaises(TypeError, NoText)
        self.assertRaises(TypeError, NoText, 1, 2)

    def test_there_are_no_other_refusals(self):
        found = {name for name in vars(errors) if not name.startswith("_")}
        self.assertEqual(found, {refusal.__name__ for refusal in (*BARE, NoText, TreeError)})


if __name__ == "__main__":
    unittest.main()
