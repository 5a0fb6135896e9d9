"""Programs: lists of rows, each a word and perhaps a number."""

from manygoings.worths import is_number

BARE = ("add", "less", "box", "get", "set", "tell", "sweep")
DEEP = ("pick", "drop", "lift", "go", "back")
LEADING = ("keep", "call", "jump", "if")


def is_row(thing, many):
    """Whether anything is a row of a program that has so many rows."""
    if type(thing) is not tuple or not 1 <= len(thing) <= 2:
        return False
    word = thing[0]
    # Another thing than a text may answer a comparison with an error, so it is not asked.
    if type(word) is not str:
        return False
    if len(thing) == 1:
        return word in BARE
    number = thing[1]
    if not is_number(number):
        return False
    if word in DEEP:
        return number >= 0
    if word in LEADING:
        return 0 <= number <= many
    return word == "put"


def is_program(thing):
    """Whether anything is a program."""
    return type(thing) is list and all([is_row(row, len(thing)) for row in thing])
