"""Ways to the things of a picture, the things that no way leads to, and their rings."""

from manygoings.pictures import check_thing, holdings, roots


def steps_to(picture, table):
    """For each reached thing the one ahead of it on a shortest way, None for a root."""
    steps = {thing: None for thing in roots(picture)}
    level = list(steps)
    while len(level) > 0:
        further = []
        for holder in level:
            fresh = [thing for thing in table[holder] if thing not in steps]
            for thing in fresh:
                steps[thing] = holder
            further.extend(fresh)
        level = further
    return steps


def reached(picture):
    """The things that a way leads to, in the order of things."""
    table = holdings(picture)
    steps = steps_to(picture, table)
    return [thing for thing in table if thing in steps]


def lost(picture):
    """The things that no way leads to, in the order of things."""
    table = holdings(picture)
    steps = steps_to(picture, table)
    return [thing for thing in table if thing not in steps]


def is_way(picture, way):
    """Whether a list of worths is a way."""
    if len(way) == 0 or way[0] not in roots(picture):
        return False
    table = holdings(picture)
    # Some worth ahead may be no thing, which holds nothing.
    return all([thing in table.get(holder, []) for holder, thing in zip(way, way[1:])])


def way_to(picture, thing):
    """A way with the fewest things that ends with the one told; None where that is lost."""
    table = holdings(picture)
    check_thing(table, thing)
    steps = steps_to(picture, table)
    if thing not in steps:
        return None
    way = []
    at = thing
    while at is not None:
        way.append(at)
        at = steps[at]
    return way[::-1]


def is_shut(picture, some):
    """Whether a list of worths is a shut set."""
    table = holdings(picture)
    inside = {worth: True for worth in some}
    if not all([worth in table for worth in inside]):
        return False
    if any([root in inside for root in roots(picture)]):
        return False
    outside = [holder for holder in table if holder not in inside]
    return not any([thing in inside for holder in outside for thing in table[holder]])


def lost_ring(picture):
    """A ring of lost things, or None where nothing is lost."""
    gone = lost(picture)
    if len(gone) == 0:
        return None
    table = holdings(picture)
    holder_of = {thing: holder for holder in gone for thing in table[holder]}
    # Each lost thing is held, and by lost ones alone: so the row of holders comes
    # back to one that it has met.
    met = {}
    at = gone[0]
    while at not in met:
        met[at] = True
        at = holder_of[at]
    row = list(met)
    return row[row.index(at):][::-1]


def swept(picture):
    """The picture without its lost things."""
    pile, pegs, goings, boxes = picture
    steps = steps_to(picture, holdings(picture))
    return (list(pile), list(pegs),
            [(g, place, list(kept)) for g, place, kept in goings if ("go", g) in steps],
            [(b, worth) for b, worth in boxes if ("box", b) in steps])
