"""Runs for the tests: the table of point 33, done on the insides of a plain house.

Nothing here is a deed of the house but its sweep: a row takes and puts as the table tells, and
behind it the house lets go of what nothing holds.
"""


def beneath(house, k):
    """The worth k beneath the top, or a worth of no kind where there is none."""
    return house.worths[-1 - k] if k < len(house.worths) else (None, None)


def has_all(house, rows, row):
    """Whether the house has what a row needs."""
    word, k = row[0], row[-1]
    first, second = beneath(house, 0), beneath(house, 1)
    if word in ("add", "less"):
        return first[0] == second[0] == "num"
    if word in ("pick", "drop", "lift"):
        return beneath(house, k)[0] is not None
    if word in ("box", "tell"):
        return first[0] is not None
    if word == "get":
        return first[0] == "box"
    if word == "set":
        return first[0] is not None and second[0] == "box"
    if word == "if":
        return first[0] == "num"
    if word == "back":
        return beneath(house, k)[0] == "at" and beneath(house, k)[1] <= len(rows)
    if word == "go":
        return beneath(house, k)[0] == "go" and house.kept[beneath(house, k)[1]][0] <= len(rows)
    return True


def least(table):
    return min(n for n in range(len(table) + 1) if n not in table)


def do_row(house, at, row, told):
    """Does a row, and tells the next one."""
    worths, word, n = house.worths, row[0], row[-1]
    if word == "put":
        worths.append(("num", n))
    elif word in ("add", "less"):
        (_, c), (_, a) = worths.pop(), worths.pop()
        worths.append(("num", a + c if word == "add" else a - c))
    elif word == "pick":
        worths.append(worths[-1 - n])
    elif word == "drop":
        del worths[-1 - n]
    elif word == "lift":
        worths.append(worths.pop(-1 - n))
    elif word == "box":
        b = least(house.inside)
        house.inside[b] = worths[-1]
        worths[-1] = ("box", b)
    elif word == "get":
        worths[-1] = house.inside[worths[-1][1]]
    elif word == "set":
        house.inside[worths[-2][1]] = worths[-1]
        del worths[-2:]
    elif word == "keep":
        g = least(house.kept)
        house.kept[g] = (n, list(worths))
        worths.append(("go", g))
    elif word == "go":
        place, kept = house.kept[worths[-1 - n][1]]
        house.worths = kept + worths[len(worths) - n:]
        return place
    elif word == "call":
        worths.append(("at", at + 1))
        return n
    elif word == "back":
        return worths.pop(-1 - n)[1]
    elif word == "jump":
        return n
    elif word == "if":
        return n if worths.pop()[1] != 0 else at + 1
    elif word == "tell":
        told.append(worths.pop())
    elif word == "sweep":
        house.sweep()
    return at + 1


def plain_run(house, rows, steps, at=0):
    """Points 33 and 34, on a plain house."""
    told, done = [], 0
    while at < len(rows):
        if not has_all(house, rows, rows[at]):
            return ("stuck", at, told, done)
        if done == steps:
            return ("more", at, told, done)
        at = do_row(house, at, rows[at], told)
        house.let_go()
        done += 1
    return ("done", at, told, done)
