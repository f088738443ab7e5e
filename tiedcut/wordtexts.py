"""Words and numbers in texts, parted by one blank each."""

FIGURES = "0123456789"


def show_words(parts):
    """The text of texts, numbers and None, in order."""
    return " ".join([show_word(part) for part in parts])


def show_word(part):
    """A text as it is, a number by its figures, - for None."""
    if part is None:
        return "-"
    return part if isinstance(part, str) else show_number(part)


def show_number(number):
    """A whole number by its figures."""
    pieces = []
    rest = abs(number)
    # Python itself refuses to write numbers of some thousand figures at once.
    while rest >= 10 ** 60:
        rest, low = divmod(rest, 10 ** 60)
        pieces.append(str(low).zfill(60))
    pieces.append(str(rest))
    return ("-" if number < 0 else "") + "".join(reversed(pieces))


def read_words(text):
    """The tuple of what stands in a text: numbers where figures are rightly written, None for -, else texts."""
    return tuple([read_word(word) for word in text.split(" ")])


def read_word(word):
    """What a word in a text stands for."""
    if word == "-":
        return None
    return read_number(word) if is_number(word) else word


def is_number(word):
    """Whether a word is a number by figures, - ahead below 0, no 0 ahead but in 0."""
    figures = word.removeprefix("-")
    if figures == "" or not all(sign in FIGURES for sign in figures):
        return False
    return word == "0" or figures[0] != "0"


def read_number(word):
    """The number that a word is the figures of."""
    number = 0
    # One by one, since Python itself refuses to read some thousand figures at once.
    for sign in word.removeprefix("-"):
        number = 10 * number + FIGURES.index(sign)
    return -number if word.startswith("-") else number
