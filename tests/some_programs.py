"""Programs for the tests."""

import copy

from plain_machine import do_row, has_all

BARE = ("add", "less", "box", "get", "set", "tell", "sweep")
DEEP = ("pick", "drop", "lift", "go", "back")
LEADING = ("keep", "call", "jump", "if")
WORDS = BARE + DEEP + LEADING + ("put",)
# Every row's word with some number that it may have in a program of eighteen rows, or without one.
EACH_ROW = [("put", -7), ("pick", 0), ("drop", 12), ("lift", 10 ** 60), ("go", 3), ("back", 1), ("keep", 18),
            ("call", 0), ("jump", 17), ("if", 4), ("add",), ("less",), ("box",), ("get",), ("set",),
            ("tell",), ("sweep",), ("put", 0)]

# Tells the numbers from n down to 1, and then 0, where n is on top.
DOWN = [("pick", 0), ("tell",), ("pick", 0), ("if", 6), ("drop", 0), ("jump", 9),
        ("put", 1), ("less",), ("jump", 0)]
# Tells how much the numbers from 1 to n are together, where n is on top.
SUM = [("put", 0), ("pick", 1), ("add",), ("lift", 1), ("put", 1), ("less",), ("lift", 1), ("pick", 1),
       ("if", 1), ("tell",), ("drop", 0)]
# Goes on with one going-on three times, and tells a count in a box, which outlives each of them.
THRICE = [("put", 3), ("box",), ("keep", 3),
          ("pick", 1), ("get",), ("pick", 0), ("tell",), ("put", 1), ("less",), ("pick", 2), ("lift", 1), ("set",),
          ("put", 77), ("pick", 2), ("get",), ("if", 17), ("jump", 20),
          ("lift", 1), ("pick", 0), ("go", 1)]
# Makes a ring of a box and a going-on that is lost, again and again, and sweeps; tells a box.
RINGS = [("put", 0), ("box",), ("pick", 0), ("keep", 0), ("set",), ("keep", 2), ("box",), ("sweep",),
         ("tell",), ("drop", 0), ("jump", 0)]


def random_row(rng, many, words):
    word = rng.choice(words)
    if word in BARE:
        return (word,)
    if word == "put":
        return (word, rng.choice((-2, -1, 0, 0, 1, 2, 3, 10 ** 59)))
    if word in DEEP:
        return (word, rng.choice((0, 0, 0, 1, 1, 2, 3, 7)))
    return (word, rng.randint(0, many))


def random_program(rng, most=60):
    """A program whose words are few or many, so that some run long."""
    many = rng.randint(0, most)
    words = list(WORDS) + ["put", "pick", "pick", "keep", "box"] * rng.randint(0, 3)
    words = [word for word in words if word != "sweep" or rng.random() < 0.3]
    return [random_row(rng, many, words) for _ in range(many)]


def fitted_program(rng, house, most=60):
    """A program that as a rule runs long on a plain house, which stays as it is.

    It is run here, and a row that lacks what it needs when it is first come to is made another one.
    """
    rows, house = random_program(rng, most), copy.deepcopy(house)
    met, at = set(), 0
    for _ in range(400):
        if at == len(rows):
            break
        if at not in met:
            for _ in range(60):
                if has_all(house, rows, rows[at]):
                    break
                rows[at] = random_row(rng, len(rows), WORDS)
            met.add(at)
        if not has_all(house, rows, rows[at]):
            break
        at = do_row(house, at, rows[at], [])
        house.let_go()
    return rows
