"""Long rows of mixed deeds for the tests, some of which are refused."""

from manygoings.errors import PileError

PLAIN = ("put", "take", "take", "put")
TELLING = ("look", "height", "pile", "held", "pegged", "pegs", "goings", "boxes", "pile_of", "place_of",
           "picture")
NAMES = ("a", "b", "longname", "a", "b", "nope", "", "X")


class Rows:
    """Tells one deed after the other, by what the house told of is like."""

    def __init__(self, rng, puts=0.3, most=60):
        self.rng, self.puts, self.most = rng, puts, most

    def worth(self, house):
        rng = self.rng
        some = [("box", b) for b in house.boxes()] + [("go", g) for g in house.goings()]
        if some and rng.random() < 0.6:
            return rng.choice(some)
        return rng.choice([("num", rng.randint(-3, 3)), ("num", 10 ** 60), ("at", rng.randint(0, 3)),
                           ("box", rng.randint(0, 4)), ("go", rng.randint(0, 4)), ("num", 0)]
                          + [("word", 1), ("at", -1), None] * (rng.random() < 0.1))

    def depth(self, house):
        if self.rng.random() < 0.6:
            return self.rng.choice((0, 0, 0, 1, 2, 3))
        return self.rng.randint(-1, house.height() + 1)

    def number(self, numbers):
        return self.rng.choice(list(numbers) * 4 + [-1, 0, 7])

    def deed(self, house):
        """A tuple of a deed's name and what is handed in."""
        rng = self.rng
        if rng.random() < self.puts and house.height() < self.most:
            return ("put", self.worth(house))
        word = rng.choice(("put", "take", "take", "take", "lift", "keep", "keep", "go", "go", "box", "box",
                           "fill", "fill", "peg", "unpeg", "sweep") + (rng.choice(TELLING),))
        if word in ("put",):
            return (word, self.worth(house))
        if word in ("take", "lift", "look"):
            return (word, self.depth(house)) if word == "lift" or rng.random() < 0.7 else (word,)
        if word == "keep":
            return (word, rng.randint(-1, 9))
        if word == "go":
            many = () if rng.random() < 0.3 else (self.depth(house),)
            return (word, self.number(house.goings())) + many
        if word == "fill":
            return (word, self.number(house.boxes()), self.worth(house))
        if word == "peg":
            return (word, rng.choice(NAMES), self.worth(house))
        if word in ("unpeg", "pegged"):
            return (word, rng.choice(NAMES))
        if word == "held":
            return (word, self.number(house.boxes()))
        if word in ("pile_of", "place_of"):
            return (word, self.number(house.goings()))
        if word == "sweep" and rng.random() < 0.7:
            return ("box",)
        return (word,)


def do(house, deed):
    """What the house tells of a deed: what it told, or the class of the refusal."""
    try:
        return getattr(house, deed[0])(*deed[1:])
    except PileError as why:
        return type(why)
