"""The tight paper: the fewest worths, and with them the fewest pieces."""

from manygoings.papers import NOTHING, beginnings_of, check_size


def path_of(numbers, pile):
    """The numbers of a pile's beginnings, from none up to the whole."""
    path = [0]
    for worth in pile:
        path.append(numbers[(path[-1], worth)])
    return path


def stops_of(numbers, paths):
    """The stops, a dict of True: where a pile ends, or two worths follow."""
    stops = {path[-1]: True for path in paths}
    followed = {}
    for under, _ in numbers:
        if under in followed:
            stops[under] = True
        followed[under] = True
    return stops


def edges_of(size, path, stops):
    """The heights at which the pieces of a pile begin and end, rising from 0."""
    edges = [0]
    for height in range(1, len(path)):
        if path[height] in stops or height - edges[-1] == size:
            edges.append(height)
    return edges


def lay(pieces, places, pile, path, edges):
    """Adds the pieces of a pile that are not there yet, the topmost first.

    A piece is known by the beginning that it ends with; places has its number.
    """
    fresh = [k for k in range(len(edges) - 1, 0, -1) if path[edges[k]] not in places]
    # All are numbered ahead of the first one's making: each names the one beneath it.
    for k in fresh:
        places[path[edges[k]]] = len(places) - 1
    for k in fresh:
        low, high = edges[k - 1], edges[k]
        pieces.append((places[path[low]], pile[low:high]))


def tight(size, piles):
    """The tight paper of a list of piles for a size."""
    check_size(size)
    numbers = beginnings_of(piles)
    paths = [path_of(numbers, pile) for pile in piles]
    stops = stops_of(numbers, paths)
    pieces = []
    # None has no piece, but a place, so the places are one more than the pieces.
    places = {0: NOTHING}
    for pile, path in zip(piles, paths):
        lay(pieces, places, pile, path, edges_of(size, path, stops))
    return (pieces, [places[path[-1]] for path in paths])
