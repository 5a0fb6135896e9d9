"""A house that keeps its piles in pieces of a told size."""

from manygoings.copies import Copies, check_picture
from manygoings.papers import check_size, holders
from manygoings.pieced import PiecedPiles


class Pieces(Copies):
    """A house that keeps its piles in pieces, and tells what a house of copies tells.

    Each deed of a house stands in this class too, because the document lists it here.
    """

    def __init__(self, size):
        check_size(size)
        Copies.__init__(self)
        self.begin(PiecedPiles(size), self.picture())

    def put(self, worth):
        """Puts a worth on the pile."""
        super().put(worth)

    def take(self, k=0):
        """Takes out the worth k beneath the top, and tells it."""
        return super().take(k)

    def lift(self, k):
        """Takes out the worth k beneath the top, and puts it on top."""
        super().lift(k)

    def look(self, k=0):
        """The worth k beneath the top."""
        return super().look(k)

    def height(self):
        """How many worths the running pile has."""
        return super().height()

    def pile(self):
        """The running pile."""
        return super().pile()

    def keep(self, place):
        """Makes a going-on of the running pile, and puts the worth that leads to it on."""
        return super().keep(place)

    def go(self, g, many=0):
        """Goes on with a going-on, and with as many topmost worths; tells its place."""
        return super().go(g, many)

    def box(self):
        """Makes a box of the top, and puts the worth that leads to it on."""
        return super().box()

    def held(self, b):
        """The worth of a box."""
        return super().held(b)

    def fill(self, b, worth):
        """Gives a box another worth."""
        super().fill(b, worth)

    def peg(self, name, worth):
        """Gives a peg a worth; makes the peg where there is none of this name."""
        super().peg(name, worth)

    def pegged(self, name):
        """The worth of a peg."""
        return super().pegged(name)

    def unpeg(self, name):
        """Takes a peg away."""
        super().unpeg(name)

    def pegs(self):
        """The names of the pegs, sorted."""
        return super().pegs()

    def goings(self):
        """The numbers of the goings-on, rising."""
        return super().goings()

    def boxes(self):
        """The numbers of the boxes, rising."""
        return super().boxes()

    def pile_of(self, g):
        """The pile of a going-on."""
        return super().pile_of(g)

    def place_of(self, g):
        """The place of a going-on."""
        return super().place_of(g)

    def sweep(self):
        """Lets go of what is lost, and tells it."""
        return super().sweep()

    def picture(self):
        """The picture of the house."""
        return super().picture()

    def made(self):
        """How many pieces were made since the house is there."""
        return self.piles.many_made

    def handed(self):
        """How many pieces were handed back."""
        return self.piles.many_made - len(self.piles.pieces)

    def room(self):
        """How many pieces there are."""
        return len(self.piles.pieces)

    def moved(self):
        """How many worths puts and takes have moved from piece to piece."""
        return self.piles.many_moved

    def ahead(self):
        """How many worths the running piece has."""
        return self.piles.ahead()

    def size(self):
        """The size of the pieces."""
        return self.piles.most

    def paper(self):
        """The paper of the pieces."""
        return self.piles.paper([self.kept_goings[g][1] for g in self.goings()])

    def counts(self):
        """How many hold each piece of the paper."""
        return holders(self.paper())

    def tidy(self):
        """Hands all pieces back and makes the tight ones."""
        self.lay_piles(self.pile(), self.picture()[2])


def laid(size, picture):
    """A house of pieces that is laid from a picture."""
    check_size(size)
    check_picture(picture)
    house = Pieces(size)
    house.begin(PiecedPiles(size), picture)
    return house
