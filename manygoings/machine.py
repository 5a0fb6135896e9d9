"""Runs of programs on a house."""

from manygoings.errors import NoPlace, NoProgram, NoSteps
from manygoings.pictures import is_count
from manygoings.rows import is_program

MOST_STEPS = 1000
# What must lie at which depth: for some rows wherever it is told here ..
NEEDS = {
    "add": ((0, "num"), (1, "num")),
    "less": ((0, "num"), (1, "num")),
    "box": ((0, "any"),),
    "get": ((0, "box"),),
    "set": ((0, "any"), (1, "box")),
    "if": ((0, "num"),),
    "tell": ((0, "any"),),
}
# .. and for others at the depth that is the row's own number.
DEEP_NEEDS = {"pick": "any", "drop": "any", "lift": "any", "go": "go", "back": "at"}


def check_run(rows, steps, at):
    """Refuses what is no program, and steps and a row with which it is not run."""
    if not is_program(rows):
        raise NoProgram("this is no program")
    if not is_count(steps) or steps > MOST_STEPS:
        raise NoSteps("a run has from 0 to a thousand steps")
    if not is_count(at) or at > len(rows):
        raise NoPlace("the program has no such row")


def needs_of(row):
    """What a row needs: tuples of a depth and the word of the worth that lies there."""
    word = row[0]
    if word in DEEP_NEEDS:
        return ((row[1], DEEP_NEEDS[word]),)
    return NEEDS.get(word, ())


def lies(house, k, word):
    """Whether a worth of this word, or of any, lies k beneath the top."""
    return k < house.height() and word in ("any", house.look(k)[0])


def landing(house, row):
    """The row to which the going-on or the at leads with which a row goes on."""
    word, k = row
    number = house.look(k)[1]
    return house.place_of(number) if word == "go" else number


def is_ready(house, row, many):
    """Whether the house has what a row of a program of so many rows needs."""
    if not all([lies(house, k, word) for k, word in needs_of(row)]):
        return False
    return row[0] not in ("go", "back") or landing(house, row) <= many


def how_it_is(house, rows, at):
    """Whether a run is done, stuck, or has more to do, where this row is the next one."""
    if at == len(rows):
        return "done"
    return "more" if is_ready(house, rows[at], len(rows)) else "stuck"


def do_numbered(house, row, behind):
    """Does a row that has a number; tells the next one, which may be the one behind it."""
    word, number = row
    match word:
        case "put":
            house.put(("num", number))
        case "pick":
            house.put(house.look(number))
        case "drop":
            house.take(number)
        case "lift":
            house.lift(number)
        case "keep":
            house.keep(number)
        case "go":
            return house.go(house.look(number)[1], number)
        case "back":
            return house.take(number)[1]
        case "call":
            house.put(("at", behind))
            return number
        case "jump":
            return number
        case "if":
            return behind if house.take() == ("num", 0) else number
    return behind


def put_sum(house, sign):
    """Takes two nums, and puts the lower one plus, or less, the upper one."""
    upper = house.take()[1]
    lower = house.take()[1]
    house.put(("num", lower + sign * upper))


def do_bare(house, word, told):
    """Does a row without a number; what it tells is added to the list."""
    match word:
        case "add":
            put_sum(house, 1)
        case "less":
            put_sum(house, -1)
        case "box":
            house.box()
        case "get":
            # The box goes behind the put: it may be all that holds what it has.
            house.put(house.held(house.look()[1]))
            house.take(1)
        case "set":
            # The worth is taken behind the fill: the pile may be all that holds it.
            house.fill(house.look(1)[1], house.look())
            house.take()
            house.take()
        case "tell":
            told.append(house.take())
        case "sweep":
            house.sweep()


def do_row(house, row, behind, told):
    """Does a row; tells the next one."""
    if len(row) == 2:
        return do_numbered(house, row, behind)
    do_bare(house, row[0], told)
    return behind


def run(house, rows, steps, at=0):
    """Runs a program on a house; tells how the run is, the next row, what was told, and how many
    rows were done."""
    check_run(rows, steps, at)
    told = []
    done = 0
    while done < steps and how_it_is(house, rows, at) == "more":
        at = do_row(house, rows[at], at + 1, told)
        done += 1
    return (how_it_is(house, rows, at), at, told, done)
