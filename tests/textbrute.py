"""What the document says of texts, reckoned once more by patterns, for the tests."""

import re

from tests.brute import the_part
from tests.rowmakers import FORMS
from tiedcut.errors import NoText

NUMBER = r"(?:0|-?[1-9][0-9]*)"
PATTERNS = {"whole": NUMBER, "maybe": f"(?:{NUMBER}|-)", "place": r"(?:0|[1-9][0-9]*)", "kind": "[a-h]"}

# What a wrong text may have in it: signs of right ones, and signs that look alike.
SIGNS = [*" -0123459abhpointrwyxz/>+_.,\t\r\n\x0b\x0c\x1c\x85", "\u00a0", "\u2028", "\u0663", "\uff15", "\u00b2", "\u2212", "  ", "\n\n", " / ", ""]

NUMBERS_OTHERWISE = ("00", "01", "-0", "+1", "-01", "--1", "-", "1-", "1.0", "1e3", "1_0", "0x1", " 1", "1 ", "", "\u0661", "\uff11", "\u00b9",
                     "\u2212" + "1", "1\n", "\t1", "1,0", "a", "None", "True", "00000000000000000000000000000001")


def is_written(text, pattern):
    return re.fullmatch(pattern, text, re.ASCII) is not None


def wrong_line(rows):
    """The number of the first of a forest's rows that isn't so written or stands where it may not, or None."""
    many, ties = 0, []
    for line, row in enumerate(rows):
        if is_written(row, f"point {NUMBER} [a-h]") and not ties:
            many += 1
        elif is_written(row, f"tie {NUMBER} {NUMBER}"):
            a, b = (int(word) for word in row.split(" ")[1:])
            if not 0 <= a < b < many or (ties and ties[-1] >= (a, b)) or b in the_part(((None,) * many, ties), a):
                return line
            ties.append((a, b))
        else:
            return line
    return None if many else 0


def is_row_text(text):
    return any(is_written(text, " ".join([word, *(PATTERNS[form] for form in forms)])) for word, forms in FORMS.items())


def otherwise(text, chance, many):
    """Texts that are like this one, but for one or two signs left out, put in, exchanged or another."""
    for k in range(many):
        signs = list(text)
        for turn in range(chance.choice((1, 1, 2))):
            at = chance.randrange(len(signs)) if signs else 0
            act = chance.randrange(4)
            if act == 0:
                signs[at:at + 1] = []
            elif act == 1:
                signs[at:at] = chance.choice(SIGNS)
            elif act == 2:
                signs[at:at + 1] = chance.choice(SIGNS)
            else:
                other = chance.randrange(len(signs)) if signs else 0
                signs[at:at + 1], signs[other:other + 1] = signs[other:other + 1], signs[at:at + 1]
        yield "".join(signs)


def refused_line(do, *things):
    """The line that NoText tells of; anything else is told as it is."""
    try:
        return ("told", do(*things))
    except NoText as refusal:
        assert refusal.__class__ is NoText
        return ("line", refusal.line)
