"""Programs and pictures as texts."""

from manygoings.errors import NoText
from manygoings.pictures import is_picture
from manygoings.rows import is_program
from manygoings.worths import (check_text, read_number, read_pile, read_signed, read_worth, show_pile,
                               show_worth)


def show_program(rows):
    """The text that writes a program."""
    return "; ".join([" ".join([str(word) for word in row]) for row in rows])


def read_row(part):
    """The tuple of a word and perhaps a number that a text writes, whatever the word."""
    word, blank, figures = part.partition(" ")
    if blank == "":
        return (word,)
    return (word, read_signed(figures))


def read_program(text):
    """The program that a text writes."""
    check_text(text)
    if text == "":
        return []
    rows = [read_row(part) for part in text.split("; ")]
    if not is_program(rows):
        raise NoText("this text writes no program")
    return rows


def show_picture(picture):
    """The text that writes a picture."""
    pile, pegs, goings, boxes = picture
    parts = [f"pile {show_pile(pile)}"]
    parts.extend([f"peg {name} {show_worth(worth)}" for name, worth in pegs])
    parts.extend([f"going {g} @{place} {show_pile(kept)}" for g, place, kept in goings])
    parts.extend([f"box {b} {show_worth(worth)}" for b, worth in boxes])
    return "; ".join(parts)


def read_place(text):
    """The place of a going-on that a text writes."""
    word, place = read_worth(text)
    if word != "at":
        raise NoText("a place is written as an at")
    return place


def read_part(part):
    """The word of a part of a picture, and what it writes."""
    word, _, rest = part.partition(" ")
    first, _, further = rest.partition(" ")
    match word:
        case "pile":
            return (word, read_pile(rest))
        case "peg":
            return (word, (first, read_worth(further)))
        case "going":
            place, _, pile = further.partition(" ")
            return (word, (read_number(first), read_place(place), read_pile(pile)))
        case "box":
            return (word, (read_number(first), read_worth(further)))
    raise NoText("a part of a picture begins with pile, peg, going or box")


def read_picture(text):
    """The picture that a text writes."""
    check_text(text)
    found = {"pile": [], "peg": [], "going": [], "box": []}
    for part in text.split("; "):
        word, row = read_part(part)
        found[word].append(row)
    if len(found["pile"]) != 1:
        raise NoText("a picture has one running pile")
    picture = (found["pile"][0], found["peg"], found["going"], found["box"])
    # The parts may stand in another order than that in which a picture is written.
    if not is_picture(picture) or show_picture(picture) != text:
        raise NoText("this text writes no picture")
    return picture
