"""Papers: piles laid out in pieces that lie on one another."""

from manygoings.errors import NoPlace, NoSize
from manygoings.worths import is_number

LEAST_SIZE = 2
MOST_SIZE = 64
NOTHING = -1


def check_size(size):
    """Refuses what is no size."""
    if not is_number(size) or not LEAST_SIZE <= size <= MOST_SIZE:
        raise NoSize("a size is a whole number from 2 to 64")


def leads_of(paper):
    """All unders of a paper and, behind them, its tops."""
    pieces, tops = paper
    return [under for under, _ in pieces] + tops


def is_numbered(paper):
    """Whether the pieces are numbered as they are come to, none lying on itself."""
    pieces, tops = paper
    many = 0
    for at in tops:
        before = many
        while at == many and many < len(pieces):
            at = pieces[at][0]
            many += 1
        # A piece that this same walk came to would lie on itself, so only those
        # of the walks before may be met again.
        if at != NOTHING and not 0 <= at < before:
            return False
    return many == len(pieces)


def is_paper(size, paper):
    """Whether a paper is right for a size."""
    check_size(size)
    if not all([is_number(at) for at in leads_of(paper)]):
        return False
    if not all([1 <= len(worths) <= size for _, worths in paper[0]]):
        return False
    return is_numbered(paper)


def opened(paper, k):
    """The pile of the top at k."""
    pieces, tops = paper
    if not is_number(k) or not 0 <= k < len(tops):
        raise NoPlace("the paper has no such top")
    at = tops[k]
    parts = []
    while at != NOTHING:
        at, worths = pieces[at]
        parts.append(worths)
    return [worth for part in reversed(parts) for worth in part]


def holders(paper):
    """For each piece, how many unders and tops are it."""
    counts = [0 for _ in paper[0]]
    for at in leads_of(paper):
        if at != NOTHING:
            counts[at] += 1
    return counts


def kept(paper):
    """How many worths all pieces have together."""
    return sum([len(worths) for _, worths in paper[0]])


def beginnings_of(piles):
    """The unlike beginnings but none, numbered from 1; none itself has the number 0.

    Each number stands under a pair: that of the beginning shorter by one worth,
    and this worth.
    """
    numbers = {}
    for pile in piles:
        at = 0
        for worth in pile:
            at = numbers.setdefault((at, worth), len(numbers) + 1)
    return numbers


def spots(piles):
    """How many unlike beginnings but none the piles have together."""
    return len(beginnings_of(piles))
