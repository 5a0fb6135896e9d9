"""The desk: a house of pieces that is told what to do by rows of text."""

from manygoings.desk_rows import read_desk_row
from manygoings.machine import run
from manygoings.pictures import things
from manygoings.pieces import Pieces, laid
from manygoings.rings import lost, way_to
from manygoings.texts import read_picture, read_program, show_picture
from manygoings.worths import show_pile, show_worth

FIRST_SIZE = 8


def say_deed(house, row):
    """Does a row that is answered by ok alone."""
    match row:
        case ["put", worth]:
            house.put(worth)
        case ["lift", k]:
            house.lift(k)
        case ["fill", b, worth]:
            house.fill(b, worth)
        case ["peg", name, worth]:
            house.peg(name, worth)
        case ["unpeg", name]:
            house.unpeg(name)
        case ["tidy"]:
            house.tidy()
    return "ok"


def say_worth(house, row):
    """Does a row that is answered by a worth."""
    match row:
        case ["take", k]:
            return show_worth(house.take(k))
        case ["look", k]:
            return show_worth(house.look(k))
        case ["held", b]:
            return show_worth(house.held(b))
        case ["pegged", name]:
            return show_worth(house.pegged(name))
        case ["keep", place]:
            return show_worth(("go", house.keep(place)))
        case ["box"]:
            return show_worth(("box", house.box()))
        case ["go", g, many]:
            return show_worth(("at", house.go(g, many)))


def say_worths(house, row):
    """Does a row that is answered by worths, written as a pile."""
    match row:
        case ["sweep"]:
            return show_pile(house.sweep())
        case ["lost"]:
            return show_pile(lost(house.picture()))
        case ["pile"]:
            return show_pile(house.pile())
        case ["things"]:
            return show_pile(things(house.picture()))
        case ["way", worth]:
            return show_pile(way_to(house.picture(), worth) or [])


def say_number(house, row):
    """Does a row that is answered by a number."""
    match row:
        case ["height"]:
            return str(house.height())
        case ["room"]:
            return str(house.room())
        case ["moved"]:
            return str(house.moved())
        case ["made"]:
            return str(house.made())


def say_text(house, row):
    """Does a row that is answered by the picture, by the names of the pegs, or by what a run told."""
    match row:
        case ["show"]:
            return show_picture(house.picture())
        case ["pegs"]:
            return " ".join(house.pegs()) or "none"
        case ["run", steps, text]:
            how, at, told, done = run(house, read_program(text), steps)
            return f"{how} {at} {done} {show_pile(told)}"


ANSWERS = {
    "put": say_deed, "lift": say_deed, "fill": say_deed, "peg": say_deed, "unpeg": say_deed,
    "tidy": say_deed,
    "take": say_worth, "look": say_worth, "held": say_worth, "pegged": say_worth, "keep": say_worth,
    "box": say_worth, "go": say_worth,
    "sweep": say_worths, "lost": say_worths, "pile": say_worths, "things": say_worths, "way": say_worths,
    "height": say_number, "room": say_number, "moved": say_number, "made": say_number,
    "show": say_text, "pegs": say_text, "run": say_text,
}


class Desk:
    """A house of pieces, and what it does and answers row by row."""

    def __init__(self):
        self.laid_house = Pieces(FIRST_SIZE)

    def say(self, row):
        """Does what a row says, and answers."""
        words = read_desk_row(row)
        match words:
            case ["size", size]:
                self.laid_house = laid(size, self.house())
                return "ok"
            case ["load", text]:
                self.laid_house = laid(self.laid_house.size(), read_picture(text))
                return "ok"
        answer = ANSWERS[words[0]]
        return answer(self.laid_house, words)

    def house(self):
        """The picture of the house."""
        return self.laid_house.picture()
