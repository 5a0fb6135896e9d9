"""Worths and piles of worths: what they are, and how they are written."""

from manygoings.errors import NoText

SIGNS = {"num": "", "at": "@", "box": "b", "go": "g"}
WORDS = {"@": "at", "b": "box", "g": "go"}
FIGURES = "0123456789"
MOST_FIGURES = 60


def is_number(thing):
    """Whether anything is a whole number; True and False are none."""
    # A class under int may answer a comparison with an error, so it is not asked.
    return type(thing) is int


def is_worth(thing):
    """Whether anything is a worth."""
    if type(thing) is not tuple or len(thing) != 2:
        return False
    word, number = thing
    # The word is looked up only where it is a text: another thing may have no hash.
    if type(word) is not str or word not in SIGNS or not is_number(number):
        return False
    return word == "num" or number >= 0


def is_thing(worth):
    """Whether a worth leads to a box or to a going-on."""
    return worth[0] in ("box", "go")


def things_of(worths):
    """The things among the worths, each once, as they first stand."""
    found = {}
    for worth in worths:
        if is_thing(worth):
            found[worth] = True
    return list(found)


def show_worth(worth):
    """The text that writes a worth."""
    word, number = worth
    return f"{SIGNS[word]}{number}"


def show_pile(worths):
    """The text that writes a pile, its lowest worth first."""
    if len(worths) == 0:
        return "none"
    return " ".join([show_worth(worth) for worth in worths])


def check_text(text):
    """Refuses what is no text."""
    if type(text) is not str:
        raise NoText("only a text writes something")


def read_number(text):
    """The number from 0 on that a text of figures alone writes."""
    if not 1 <= len(text) <= MOST_FIGURES:
        raise NoText("a number has from one to sixty figures")
    # Signs that other scripts have for figures are none here, so isdigit will not do.
    if not all([sign in FIGURES for sign in text]):
        raise NoText("a number is written by figures alone")
    if text[0] == "0" and text != "0":
        raise NoText("no number but 0 itself begins with 0")
    return int(text)


def read_signed(text):
    """The number that a text of figures, perhaps with - ahead, writes."""
    if text[:1] != "-":
        return read_number(text)
    number = read_number(text[1:])
    if number == 0:
        raise NoText("0 has no sign ahead")
    return -number


def read_worth(text):
    """The worth that a text writes."""
    check_text(text)
    sign = text[:1]
    if sign in WORDS:
        return (WORDS[sign], read_number(text[1:]))
    return ("num", read_signed(text))


def read_pile(text):
    """The pile that a text writes, as a list."""
    check_text(text)
    if text == "none":
        return []
    return [read_worth(part) for part in text.split(" ")]
