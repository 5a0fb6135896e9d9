"""The rows of the desk: which words they have, and how these are read."""

from manygoings.errors import NoRow, NoText
from manygoings.pictures import is_name
from manygoings.worths import read_number, read_worth

# What stands behind the first word: numbers, worths, names, and texts to the row's end.
FORMS = {
    "put": ("worth",),
    "lift": ("number",),
    "fill": ("number", "worth"),
    "peg": ("name", "worth"),
    "unpeg": ("name",),
    "take": ("number",),
    "look": ("number",),
    "held": ("number",),
    "pegged": ("name",),
    "keep": ("number",),
    "box": (),
    "go": ("number", "number"),
    "sweep": (),
    "lost": (),
    "pile": (),
    "things": (),
    "way": ("worth",),
    "pegs": (),
    "height": (),
    "room": (),
    "moved": (),
    "made": (),
    "tidy": (),
    "size": ("number",),
    "load": ("text",),
    "show": (),
    "run": ("number", "text"),
}


def cut_first(kind, rest):
    """The first word of what is left of a row, the blank behind it, and what is left then.

    A text has no end but the row's, so it has no blank behind it.
    """
    if kind == "text":
        return (rest, "", "")
    return rest.partition(" ")


def read_kind(kind, word):
    """What a word of a row writes, where something of this kind must stand."""
    if kind == "text":
        return word
    if kind == "name":
        if not is_name(word):
            raise NoRow("a name must stand in this row")
        return word
    try:
        return read_worth(word) if kind == "worth" else read_number(word)
    except NoText:
        raise NoRow("a worth or a number must stand in this row") from None


def read_desk_row(row):
    """A row as a list: its first word, and what is read behind it."""
    if type(row) is not str:
        raise NoRow("a row is a text")
    word, blank, rest = row.partition(" ")
    if word not in FORMS:
        raise NoRow("no row begins so")
    found = [word]
    for kind in FORMS[word]:
        if blank == "":
            raise NoRow("something is lacking in this row")
        part, blank, rest = cut_first(kind, rest)
        found.append(read_kind(kind, part))
    if blank != "":
        raise NoRow("there is too much in this row")
    return found
