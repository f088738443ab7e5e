"""Points [2], [3] (h), [25] and [26]: show_row, read_row and show_told."""

import copy
import random
import unittest

from tests.keeping import fitting_row, plain_outcome
from tests.makers import FORK, fixed, middling_forests, odd_things
from tests.rowmakers import DEEDS, FORMS, LARGE, RIGHT, right_row, rows_of, with_part
from tests.textbrute import NUMBERS_OTHERWISE, is_row_text, otherwise, refused_line
from tiedcut.rows import is_row
from tiedcut.rowtexts import read_row, show_row, show_told

NAMED = (
    (("new", -5, "b"), "new -5 b"), (("put", 3, 0), "put 3 0"), (("paint", 0, "h"), "paint 0 h"), (("tie", 10, 2), "tie 10 2"),
    (("cut", 2, 10), "cut 2 10"), (("add", 0, 1, LARGE), "add 0 1 " + "9" * 30), (("spread", 4, None, -1), "spread 4 - -1"),
    (("spread", 4, 0, -LARGE), "spread 4 0 -" + "9" * 30), (("joined", -1, 7), "joined -1 7"), (("way", 1, 1), "way 1 1"),
    (("total", 1, 2), "total 1 2"), (("many", 0, 0), "many 0 0"), (("most", 5, 4), "most 5 4"), (("first", 1, 2, "a"), "first 1 2 a"),
    (("reach", 1, 2, -30), "reach 1 2 -30"), (("kth", 1, 2, 0), "kth 1 2 0"), (("meet", 1, 2, 3), "meet 1 2 3"),
    (("sum", 1, None), "sum 1 -"), (("size", 1, 2), "size 1 2"), (("top", 0, None), "top 0 -"), (("least", 0, None, "e"), "least 0 - e"))


def all_rows():
    """Rows of all words, each part one after another otherwise."""
    found = [row for row, text in NAMED] + list(rows_of(2))
    for word, forms in FORMS.items():
        for at, form in enumerate(forms, 1):
            found += [with_part(right_row(word), at, part) for part in RIGHT[form]]
    return found


class Rows(unittest.TestCase):

    def wrong(self, thing):
        self.assertEqual(repr(refused_line(read_row, thing)), repr(("line", 0)), repr(thing))

    def check(self, text):
        if is_row_text(text):
            row = read_row(text)
            self.assertIs(is_row(row), True)
            self.assertEqual(show_row(row), text)
        else:
            self.wrong(text)

    def test_named_ones(self):
        self.assertEqual({row[0] for row, text in NAMED}, set(FORMS))
        for row, text in NAMED:
            self.assertEqual(show_row(row), text)
            self.assertEqual(repr(read_row(text)), repr(row))

    def test_as_it_was_written(self):
        for row in all_rows():
            text = " ".join("-" if part is None else str(part) for part in row)
            self.assertEqual(show_row(row), text)
            self.assertEqual(repr(read_row(text)), repr(row))

    def test_words_otherwise(self):
        for row, text in NAMED:
            parts = text.split(" ")
            for word in (parts[0].upper(), parts[0].title(), parts[0] + "s", parts[0][1:], "", "point", "row", "back", "forest", "0", "-"):
                self.wrong(" ".join([word, *parts[1:]]))
            for other in FORMS:
                self.check(" ".join([other, *parts[1:]]))
            for at in range(len(parts)):
                self.wrong(" ".join(parts[:at] + parts[at + 1:]))
                self.check(" ".join(parts[:at] + ["-"] + parts[at + 1:]))
                self.check(" ".join(parts[:at] + ["a"] + parts[at + 1:]))
            for more in ("0", "-", "a", "", " "):
                self.wrong(text + " " + more)

    def test_none_only_as_q(self):
        for word, forms in FORMS.items():
            for at, form in enumerate(forms, 1):
                parts = show_row(right_row(word)).split(" ")
                parts[at] = "-"
                if form == "maybe":
                    self.assertIsNone(read_row(" ".join(parts))[at])
                else:
                    self.wrong(" ".join(parts))

    def test_numbers_otherwise(self):
        for word, forms in FORMS.items():
            for at, form in enumerate(forms, 1):
                for number in (*NUMBERS_OTHERWISE, *(["-1", "-30"] if form == "place" else []), "5" if form == "kind" else "b"):
                    parts = show_row(right_row(word)).split(" ")
                    parts[at] = number
                    if not (form == "maybe" and number == "-") and not (form == "kind" and number == "a"):
                        self.wrong(" ".join(parts))

    def test_kinds_otherwise(self):
        for kind in ("i", "A", "aa", "", "\u0430", "a\n", " a"):
            for text in ("new 5 ", "paint 0 ", "first 0 0 ", "least 0 - "):
                self.wrong(text + kind)

    def test_blanks_otherwise(self):
        for row, text in NAMED:
            for other in (" " + text, text + " ", text.replace(" ", "  ", 1), text.replace(" ", "\t"), text.replace(" ", "\n"), text.replace(" ", "\u00a0"),
                          text + "\n", "\n" + text, text + "\r", text.replace(" ", ""), text.replace(" ", ","), text + "\n" + text, text + " / " + text):
                self.wrong(other)

    def test_one_sign_otherwise(self):
        chance = random.Random(3)
        for row, text in NAMED:
            for other in otherwise(text, chance, 200):
                self.check(other)

    def test_things_of_any_kind(self):
        for thing in [*odd_things(), 0, -1, ("tie", 0, 1), ["tie 0 1"], ("tie 0 1",), b"tie 0 1", "()", "('tie', 0, 1)"]:
            self.wrong(thing)

    def test_long_texts(self):
        for text in ("x" * 8000, " " * 8000, "tie " * 2000, "-" * 8000, "9" * 8000, "tie 0 " + "0" * 7000, "\n" * 8000):
            self.wrong(text)
        for sign in ("", "-"):
            text = f"put 0 {sign}{'123456789' * 800}"
            self.assertEqual(show_row(read_row(text)), text)
            self.assertEqual(read_row(text)[2] % 10 ** 12, int(sign + "789123456789"[-12:]) % 10 ** 12)

    def test_nothing_is_changed(self):
        for row, text in NAMED:
            kept = copy.deepcopy(row)
            show_row(row)
            self.assertEqual(row, kept)
        for thing in fixed(odd_things()):
            kept = repr(thing)
            refused_line(read_row, thing)
            self.assertEqual(repr(thing), kept)

    def test_numbers_of_all_lengths(self):
        """At each length, also where figures are parted for writing, noughts within stay."""
        for length in [*range(1, 200), 299, 300, 301]:
            for number in (10 ** length, 10 ** length - 1, 10 ** length + 7, -10 ** length):
                self.assertEqual(show_row(("put", 0, number)), "put 0 " + str(number))
                self.assertEqual(read_row("put 0 " + str(number)), ("put", 0, number))


def the_told(row, told):
    """Point [26], by what each word is told."""
    if told is None:
        return "done" if row[0] in DEEDS else "none"
    if row[0] == "joined":
        return {True: "yes", False: "no"}[told]
    if row[0] == "way":
        return " ".join(str(p) for p in told)
    if row[0] in ("most", "top"):
        return f"{told[0]} at {told[1]}"
    return str(told)


class Told(unittest.TestCase):

    def test_named_ones(self):
        for row, told, text in (
                (("new", 5, "a"), 0, "0"), (("new", 5, "a"), 1, "1"), (("new", 5, "a"), 12, "12"), (("put", 0, 5), None, "done"),
                (("paint", 0, "a"), None, "done"), (("tie", 0, 1), None, "done"), (("cut", 0, 1), None, "done"), (("add", 0, 1, 5), None, "done"),
                (("spread", 0, None, 5), None, "done"), (("joined", 0, 1), True, "yes"), (("joined", 0, 1), False, "no"),
                (("way", 0, 0), (0,), "0"), (("way", 0, 2), (0, 2), "0 2"), (("way", 2, 0), (2, 1, 10, 0), "2 1 10 0"),
                (("total", 0, 1), 0, "0"), (("total", 0, 1), 1, "1"), (("total", 0, 1), -15, "-15"), (("total", 0, 1), LARGE, "9" * 30),
                (("many", 0, 1), 2, "2"), (("many", 0, 0), 1, "1"), (("most", 0, 1), (-5, 1), "-5 at 1"), (("most", 0, 1), (0, 0), "0 at 0"),
                (("most", 0, 1), (1, 0), "1 at 0"), (("first", 0, 1, "a"), None, "none"), (("first", 0, 1, "a"), 0, "0"),
                (("first", 0, 1, "a"), 1, "1"), (("reach", 0, 1, 5), None, "none"), (("reach", 0, 1, 5), 1, "1"), (("kth", 0, 1, 0), 0, "0"),
                (("meet", 0, 1, 2), 1, "1"), (("sum", 0, None), -LARGE, "-" + "9" * 30), (("size", 0, 1), 3, "3"),
                (("top", 0, None), (7, 3), "7 at 3"), (("top", 0, 1), (-LARGE, 0), "-" + "9" * 30 + " at 0"),
                (("least", 0, None, "a"), None, "none"), (("least", 0, None, "a"), 0, "0")):
            self.assertEqual(show_told(row, told), text, (row, told))

    def test_what_each_row_is_told(self):
        for number, forest in enumerate([FORK, *middling_forests()]):
            chance = random.Random(number)
            for k in range(200):
                row = fitting_row(chance, forest, tuple(FORMS))
                forest, (kind, told) = plain_outcome(forest, row)
                if kind == "told":
                    self.assertEqual(show_told(row, told), the_told(row, told), (row, told))

    def test_great_numbers(self):
        self.assertEqual(show_told(("total", 0, 1), 10 ** 5000), "1" + "0" * 5000)
        self.assertEqual(show_told(("most", 0, 1), (-10 ** 5000, 1)), "-1" + "0" * 5000 + " at 1")


if __name__ == "__main__":
    unittest.main()
