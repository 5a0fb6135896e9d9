"""Pictures of houses: what is one, and what its things hold."""

from manygoings.errors import NoThing
from manygoings.worths import is_number, is_worth, things_of

LETTERS = "abcdefghijklmnopqrstuvwxyz"
MOST_LETTERS = 8


def is_name(thing):
    """Whether anything is a name for a peg."""
    if type(thing) is not str or not 1 <= len(thing) <= MOST_LETTERS:
        return False
    # Letters of other scripts may be small too, so islower will not do.
    return all([sign in LETTERS for sign in thing])


def is_count(thing):
    """Whether anything is a whole number from 0 on."""
    return is_number(thing) and thing >= 0


def is_pile(thing):
    """Whether anything is a list of worths."""
    return type(thing) is list and all([is_worth(worth) for worth in thing])


def are_rows(thing, width):
    """Whether anything is a list of tuples with so many items each."""
    if type(thing) is not list:
        return False
    return all([type(row) is tuple and len(row) == width for row in thing])


def is_rising(keys):
    """Whether each name, or each number, is above the one ahead of it."""
    return all([low < high for low, high in zip(keys, keys[1:])])


def are_pegs(thing):
    """Whether anything is the pegs of a picture, but for which things they have."""
    if not are_rows(thing, 2):
        return False
    if not all([is_name(name) and is_worth(worth) for name, worth in thing]):
        return False
    return is_rising([name for name, _ in thing])


def are_goings(thing):
    """Whether anything is the goings of a picture, but for which things they have."""
    if not are_rows(thing, 3):
        return False
    if not all([is_count(g) and is_count(place) and is_pile(pile) for g, place, pile in thing]):
        return False
    return is_rising([row[0] for row in thing])


def are_boxes(thing):
    """Whether anything is the boxes of a picture, but for which things they have."""
    if not are_rows(thing, 2):
        return False
    if not all([is_count(b) and is_worth(worth) for b, worth in thing]):
        return False
    return is_rising([b for b, _ in thing])


def worths_of(picture):
    """All worths of a picture, wherever they stand."""
    pile, pegs, goings, boxes = picture
    worths = pile + [row[1] for row in pegs + boxes]
    for row in goings:
        worths.extend(row[2])
    return worths


def is_picture(thing):
    """Whether anything is a picture."""
    if type(thing) is not tuple or len(thing) != 4:
        return False
    pile, pegs, goings, boxes = thing
    if not (is_pile(pile) and are_pegs(pegs) and are_goings(goings) and are_boxes(boxes)):
        return False
    # What stands somewhere must be there, and what is there must stand somewhere.
    return sorted(things_of(worths_of(thing))) == things(thing)


def things(picture):
    """The boxes of a picture, rising, and then its goings, rising, as worths."""
    return list(holdings(picture))


def roots(picture):
    """The things of the running pile and, behind them, of the pegs, each once."""
    pile, pegs, _, _ = picture
    return things_of(pile + [worth for _, worth in pegs])


def holdings(picture):
    """What each thing of a picture holds: a dict of lists, in the order of things."""
    goings, boxes = picture[2:]
    table = {("box", b): things_of([worth]) for b, worth in boxes}
    for row in goings:
        table[("go", row[0])] = things_of(row[2])
    return table


def check_thing(table, thing):
    """Refuses a worth that is no thing of the picture whose holdings are told."""
    if not is_worth(thing) or thing not in table:
        raise NoThing("the picture has no such thing")


def holds(picture, thing):
    """What a thing of a picture holds."""
    table = holdings(picture)
    check_thing(table, thing)
    return table[thing]
