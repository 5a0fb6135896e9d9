"""Pictures for the tests, and what the document says of pictures, told plainly."""

import itertools

BRIM = (
    [("num", 1), ("box", 2), ("go", 0), ("box", 2)],
    [("a", ("go", 5)), ("b", ("num", 7)), ("c", ("box", 2))],
    [(0, 3, [("box", 4), ("num", 0), ("box", 2), ("box", 4)]), (5, 0, []),
     (6, 1, [("go", 6), ("box", 9)]), (7, 10 ** 60, [("box", 8), ("at", 3)])],
    [(2, ("num", -3)), (4, ("go", 5)), (8, ("go", 7)), (9, ("box", 4))])
# In this one the going 6 (which holds itself), the box 9, which the going 6 holds, and the ring of
# the going 7 and the box 8 are lost; the box 4, which the box 9 holds, is reached all the same.
BRIM_LOST = [("box", 8), ("box", 9), ("go", 6), ("go", 7)]
EMPTY = ([], [], [], [])


def fresh(picture):
    """A picture of the same form, of which no list is the other one's."""
    pile, pegs, goings, boxes = picture
    return (list(pile), list(pegs), [(g, place, list(kept)) for g, place, kept in goings], list(boxes))


def lists_of(picture):
    """Every list of a picture."""
    return [picture[0], picture[1], picture[2], picture[3]] + [kept for _, _, kept in picture[2]]


def is_thing(worth):
    return worth[0] in ("box", "go")


def unlike(worths):
    """The things among worths, each once, in their order."""
    found = []
    for worth in worths:
        if is_thing(worth) and worth not in found:
            found.append(worth)
    return found


def worths_of_thing(picture, thing):
    """Every worth that a box or going-on of a picture has."""
    word, number = thing
    if word == "box":
        return [worth for b, worth in picture[3] if b == number]
    return [worth for g, _, pile in picture[2] if g == number for worth in pile]


def plain_things(picture):
    return [("box", b) for b in sorted(row[0] for row in picture[3])] \
        + [("go", g) for g in sorted(row[0] for row in picture[2])]


def plain_roots(picture):
    return unlike(list(picture[0]) + [worth for _, worth in picture[1]])


def plain_reached(picture):
    """All that ways lead to: the roots, and again and again what those found hold."""
    found = set(plain_roots(picture))
    while True:
        further = found | {held for thing in found for held in unlike(worths_of_thing(picture, thing))}
        if further == found:
            return [thing for thing in plain_things(picture) if thing in found]
        found = further


def standing(picture):
    """Every thing that stands somewhere in the picture."""
    pile, pegs, goings, boxes = picture
    worths = set(pile) | {worth for _, worth in pegs} | {worth for _, worth in boxes} \
        | {worth for _, _, kept in goings for worth in kept}
    return {worth for worth in worths if is_thing(worth)}


def is_whole(picture):
    """Whether just those things stand in the picture that are in it."""
    return standing(picture) == set(plain_things(picture))


def without_unheld(picture):
    """The picture without what nothing holds, and without what then nothing holds, and so on."""
    while True:
        pile, pegs, goings, boxes = picture
        held = standing(picture)
        goings = [row for row in goings if ("go", row[0]) in held]
        boxes = [row for row in boxes if ("box", row[0]) in held]
        if (goings, boxes) == (picture[2], picture[3]):
            return picture
        picture = (pile, pegs, goings, boxes)


def random_picture(rng, most=5, tall=4):
    """A picture of few things, some of which are lost as a rule."""
    numbers = range(2 * most)
    all_boxes = sorted(rng.sample(numbers, rng.randint(0, most)))
    all_goings = sorted(rng.sample(numbers, rng.randint(0, most)))
    some = [("box", b) for b in all_boxes] + [("go", g) for g in all_goings]

    def worth():
        if some and rng.random() < 0.7:
            return rng.choice(some)
        return rng.choice([("num", rng.randint(-2, 2)), ("at", rng.randint(0, 2))])

    def pile(high):
        return [worth() for _ in range(rng.randint(0, high))]

    names = sorted(rng.sample(["a", "ab", "b", "zz", "pegpeg"], rng.randint(0, 2)))
    return without_unheld((pile(2), [(name, worth()) for name in names],
                           [(g, rng.randint(0, 9), pile(tall)) for g in all_goings],
                           [(b, worth()) for b in all_boxes]))


def small_pictures():
    """Every picture of two boxes and a going, without pegs, whose piles have at most two worths."""
    worths = [("num", 0), ("box", 0), ("box", 1), ("go", 0)]
    piles = [list(row) for many in (0, 1, 2) for row in itertools.combinations(worths, many)]
    for pile, kept, one, other in itertools.product(piles, piles, worths, worths):
        picture = (pile, [], [(0, 0, kept)], [(0, one), (1, other)])
        if without_unheld(picture) == picture:
            yield picture


def chain(many):
    """A picture of a long chain: boxes and goings-on by turns, each held by the one ahead."""
    goings, boxes = [], []
    for n in range(many):
        boxes.append((n, ("go", n)))
        goings.append((n, 0, [("box", n + 1)] if n + 1 < many else []))
    return ([("box", 0)], [], goings, boxes)
