"""A desk for the tests: the table of point 38 over a plain house in pieces."""

from plain_house import PlainHouse, PlainPieces, plain_laid
from plain_machine import plain_run
from some_pictures import plain_reached, plain_things

from manygoings.errors import NoSize, NoSteps
from manygoings.rings import way_to
from manygoings.texts import read_picture, read_program, show_picture
from manygoings.worths import read_worth, show_pile, show_worth

DEEDS = ("put", "lift", "fill", "peg", "unpeg", "tidy")
OF_WORTHS = ("take", "look", "held", "pegged")


def whole_house(picture):
    """A plain house that is laid from a picture."""
    house = PlainHouse()
    house.worths, house.on_pegs, house.inside = list(picture[0]), dict(picture[1]), dict(picture[3])
    house.kept = {g: (place, list(pile)) for g, place, pile in picture[2]}
    return house


class PlainDesk:
    """Does rows that are right, or are refused by a stage ahead of the desk."""

    def __init__(self):
        self.house = PlainPieces(8)
        # Behind a run it is not promised how many pieces were made and worths moved.
        self.counted = True

    def lay(self, size, picture):
        self.house = plain_laid(size, picture)
        self.counted = True

    def say(self, row):
        word, _, rest = row.partition(" ")
        if word == "load":
            self.lay(self.house.most, read_picture(rest))
            return "ok"
        if word == "run":
            return self.run(*rest.split(" ", 1))
        kinds = {"put": "w", "fill": "nw", "peg": "aw", "unpeg": "a", "pegged": "a", "way": "w"}.get(word, "nn")
        words = [part if kind == "a" else int(part) if kind == "n" else read_worth(part)
                 for kind, part in zip(kinds, rest.split(" ")) if part]
        return self.do(word, *words)

    def run(self, steps, text):
        rows = read_program(text)
        if int(steps) > 1000:
            raise NoSteps("")
        house = whole_house(self.house.picture())
        how, at, told, done = plain_run(house, rows, int(steps))
        self.lay(self.house.most, house.picture())
        self.counted = False
        return f"{how} {at} {done} {show_pile(told)}"

    def do(self, word, *words):
        house = self.house
        if word in DEEDS:
            getattr(house, word)(*words)
            return "ok"
        if word in OF_WORTHS:
            return show_worth(getattr(house, word)(*words))
        if word == "size":
            if not 2 <= words[0] <= 64:
                raise NoSize("")
            self.lay(words[0], house.picture())
            return "ok"
        return {
            "keep": lambda: f"g{house.keep(*words)}",
            "box": lambda: f"b{house.box()}",
            "go": lambda: f"@{house.go(*words)}",
            "sweep": lambda: show_pile(house.sweep()),
            "pile": lambda: show_pile(house.pile()),
            "things": lambda: show_pile(plain_things(house.picture())),
            "lost": lambda: show_pile([thing for thing in plain_things(house.picture())
                                       if thing not in plain_reached(house.picture())]),
            "way": lambda: show_pile(way_to(house.picture(), *words) or []),
            "pegs": lambda: " ".join(house.pegs()) if house.pegs() else "none",
            "height": lambda: str(house.height()),
            "room": lambda: str(house.room()),
            "moved": lambda: str(house.moved()),
            "made": lambda: str(house.made()),
            "show": lambda: show_picture(house.picture()),
        }[word]()
