"""Piles that are kept whole: the running one, and a copy for each going-on."""

from manygoings.tally import Tally


class WholePiles:
    """A running pile; what is kept of it for a going-on is the list of its worths."""

    def __init__(self):
        self.tally = Tally()
        self.worths = []

    def lay(self, piles):
        """Begins with the first pile as the running one; tells what is kept of the others."""
        for pile in piles:
            self.tally.more(pile)
        self.worths = list(piles[0])
        return [list(pile) for pile in piles[1:]]

    def height(self):
        """How many worths the running pile has."""
        return len(self.worths)

    def pile(self):
        """The running pile."""
        return list(self.worths)

    def pile_of(self, kept):
        """The pile of which something is kept."""
        return list(kept)

    def unseen(self, seen):
        """The worths of the running pile."""
        return self.worths

    def unseen_of(self, kept, seen):
        """The worths of a kept pile; whole piles share nothing that may have been seen."""
        return kept

    def look(self, k):
        """The worth k beneath the top."""
        return self.worths[-1 - k]

    def put(self, worth):
        """Puts a worth on the running pile."""
        self.tally.more([worth])
        self.worths.append(worth)

    def take(self, k):
        """Takes out the worth k beneath the top, and tells it."""
        worth = self.worths.pop(-1 - k)
        self.tally.less([worth])
        return worth

    def keep(self):
        """Keeps the running pile as it is."""
        self.tally.more(self.worths)
        return list(self.worths)

    def go(self, kept, many):
        """Makes a kept pile the running one, with as many topmost worths on it."""
        along = self.worths[len(self.worths) - many:]
        self.tally.more(kept + along)
        self.tally.less(self.worths)
        self.worths = kept + along

    def release(self, kept):
        """Keeps a pile no more."""
        self.tally.less(kept)
