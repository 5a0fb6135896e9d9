"""Piles that are kept in pieces, which many of them share."""

from manygoings.papers import NOTHING, holders
from manygoings.tally import Tally
from manygoings.tight import tight


class Piece:
    """Some worths that lie on another piece's pile, or on nothing, and how many hold them."""

    def __init__(self, under, worths, holds):
        self.under = under
        self.worths = worths
        self.holds = holds


class PiecedPiles:
    """A running pile; what is kept of it for a going-on is (a piece's number, the height)."""

    def __init__(self, size):
        self.tally = Tally()
        self.most = size
        self.half = size // 2
        self.pieces = {}
        self.running = NOTHING
        self.tall = 0
        self.many_made = 0
        self.many_moved = 0

    def lay(self, piles):
        """Hands all pieces back and makes the tight ones; tells what is kept of the piles
        behind the first."""
        paper = tight(self.most, piles)
        tops = self.lay_tight(paper)
        self.running = self.many_made
        self.many_made += 1
        # That it lies on the first top's piece was counted as that top.
        self.pieces[self.running] = Piece(tops[0], [], 1)
        self.tall = len(piles[0])
        return [(at, len(pile)) for at, pile in zip(tops[1:], piles[1:])]

    def lay_tight(self, paper):
        """Puts new pieces in the place of all so far; tells where the tops are now."""
        so_far = list(self.pieces.values())
        first = self.many_made
        self.pieces = {}
        for (under, worths), many in zip(paper[0], holders(paper)):
            at = under if under == NOTHING else first + under
            self.pieces[self.many_made] = Piece(at, worths, many)
            self.many_made += 1
            self.tally.more(worths)
        for piece in so_far:
            self.tally.less(piece.worths)
        return [at if at == NOTHING else first + at for at in paper[1]]

    def make(self, under):
        """A new piece without worths; its number."""
        at = self.many_made
        self.many_made += 1
        self.pieces[at] = Piece(under, [], 0)
        self.hold(under)
        return at

    def hold(self, at):
        """A piece, or nothing, is held once more."""
        if at != NOTHING:
            piece = self.pieces[at]
            piece.holds += 1

    def free(self, at):
        """A piece is held once less; where nothing holds it now it is handed back, and so on down."""
        while at != NOTHING:
            piece = self.pieces[at]
            piece.holds -= 1
            if piece.holds > 0:
                return
            del self.pieces[at]
            self.tally.less(piece.worths)
            at = piece.under

    def run_on(self, at):
        """Makes another piece the running one."""
        so_far = self.running
        self.hold(at)
        self.running = at
        self.free(so_far)

    def topmost(self, at, many):
        """The topmost worths of a piece's pile, as many as told."""
        parts = []
        while many > 0:
            piece = self.pieces[at]
            parts.append(piece.worths[-many:])
            many -= len(parts[-1])
            at = piece.under
        return [worth for part in reversed(parts) for worth in part]

    def unseen_from(self, at, seen):
        """The worths of the piece and of those beneath it that were not seen; they are seen now."""
        worths = []
        while at != NOTHING and at not in seen:
            seen[at] = True
            piece = self.pieces[at]
            worths.extend(piece.worths)
            at = piece.under
        return worths

    def unseen(self, seen):
        """The worths of the running pile in pieces that were not seen."""
        return self.unseen_from(self.running, seen)

    def unseen_of(self, kept, seen):
        """The worths of a kept pile in pieces that were not seen."""
        return self.unseen_from(kept[0], seen)

    def height(self):
        """How many worths the running pile has."""
        return self.tall

    def ahead(self):
        """How many worths the running piece has."""
        piece = self.pieces[self.running]
        return len(piece.worths)

    def pile(self):
        """The running pile."""
        return self.topmost(self.running, self.tall)

    def pile_of(self, kept):
        """The pile of which something is kept."""
        at, tall = kept
        return self.topmost(at, tall)

    def look(self, k):
        """The worth k beneath the top."""
        piece = self.pieces[self.running]
        while k >= len(piece.worths):
            k -= len(piece.worths)
            piece = self.pieces[piece.under]
        return piece.worths[-1 - k]

    def put(self, worth):
        """Puts a worth on the running pile."""
        piece = self.pieces[self.running]
        if len(piece.worths) == self.most:
            piece = self.rise()
        piece.worths.append(worth)
        self.tall += 1
        self.tally.more([worth])

    def rise(self):
        """A new running piece on the full one, with its upper half; tells it."""
        full = self.pieces[self.running]
        at = self.make(self.running)
        piece = self.pieces[at]
        piece.worths = full.worths[-self.half:]
        del full.worths[-self.half:]
        self.many_moved += self.half
        self.run_on(at)
        return piece

    def take(self, k):
        """Takes out the worth k beneath the top, and tells it."""
        above = [self.take_top() for _ in range(k)]
        worth = self.take_top()
        for one in reversed(above):
            self.put(one)
        return worth

    def take_top(self):
        """Takes out the top of the running pile, and tells it."""
        piece = self.pieces[self.running]
        if len(piece.worths) == 0:
            piece = self.sink()
        worth = piece.worths.pop()
        self.tall -= 1
        self.tally.less([worth])
        return worth

    def sink(self):
        """Gives the running piece, which has no worths, those of the piece that it lies on.

        Tells the running piece, which is that other one where nothing else holds it.
        """
        piece = self.pieces[self.running]
        at = piece.under
        low = self.pieces[at]
        if low.holds == 1:
            self.run_on(at)
            return low
        if len(low.worths) > self.half:
            self.part(low)
        piece.worths = list(low.worths)
        self.many_moved += len(low.worths)
        self.tally.more(low.worths)
        piece.under = low.under
        self.hold(low.under)
        self.free(at)
        return piece

    def part(self, piece):
        """Moves all but the upper half of a piece into a new one beneath it."""
        at = self.make(piece.under)
        self.free(piece.under)
        below = self.pieces[at]
        below.worths = piece.worths[:-self.half]
        del piece.worths[:-self.half]
        piece.under = at
        self.hold(at)

    def keep(self):
        """Keeps the running pile as it is."""
        at = self.running
        piece = self.pieces[at]
        if len(piece.worths) == 0:
            at = piece.under
        else:
            self.run_on(self.make(at))
        self.hold(at)
        return (at, self.tall)

    def go(self, kept, many):
        """Makes a kept pile the running one, with as many topmost worths put on it."""
        along = self.topmost(self.running, many)
        at, self.tall = kept
        self.run_on(self.make(at))
        for worth in along:
            self.put(worth)

    def release(self, kept):
        """Keeps a pile no more."""
        self.free(kept[0])

    def paper(self, kept):
        """The paper of the running pile and of the kept ones, in their order."""
        piece = self.pieces[self.running]
        at = piece.under if len(piece.worths) == 0 else self.running
        tops = [at] + [one[0] for one in kept]
        # Nothing has a place here too, so the pieces' numbers are one less than the places.
        numbers = {NOTHING: NOTHING}
        for at in tops:
            while at not in numbers:
                numbers[at] = len(numbers) - 1
                piece = self.pieces[at]
                at = piece.under
        found = [self.pieces[at] for at in numbers if at != NOTHING]
        pieces = [(numbers[piece.under], list(piece.worths)) for piece in found]
        return (pieces, [numbers[at] for at in tops])
