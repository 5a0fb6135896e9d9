"""A house that keeps each pile whole, and the deeds of every house."""

from manygoings.errors import NoName, NoPicture, NoPlace, NoThing, NoWorth
from manygoings.pictures import is_count, is_name, is_picture
from manygoings.whole import WholePiles
from manygoings.worths import is_number, is_thing, is_worth, things_of


def check_name(name):
    """Refuses what is no name."""
    if not is_name(name):
        raise NoName("a name has from one to eight small letters")


def check_picture(picture):
    """Refuses what is no picture."""
    if not is_picture(picture):
        raise NoPicture("this is no picture")


def check_place(k, many):
    """Refuses what is none of so many places from 0 on."""
    if not is_count(k) or k >= many:
        raise NoPlace("the pile has no such place")


def least_free(table):
    """The least number from 0 on that is not in a table."""
    number = 0
    while number in table:
        number += 1
    return number


class Copies:
    """A house that keeps each pile whole."""

    def __init__(self):
        self.begin(WholePiles(), ([], [], [], []))

    def begin(self, piles, picture):
        """Sets the house up from a picture, with something new to keep its piles."""
        pile, pegs, goings, boxes = picture
        self.piles = piles
        self.tally = piles.tally
        self.peg_worths = {name: worth for name, worth in pegs}
        self.box_worths = {b: worth for b, worth in boxes}
        self.tally.more([row[1] for row in pegs + boxes])
        self.lay_piles(pile, goings)

    def lay_piles(self, pile, goings):
        """Has all piles kept anew, and the goings-on with their places."""
        kept = self.piles.lay([pile] + [row[2] for row in goings])
        self.kept_goings = {row[0]: (row[1], one) for row, one in zip(goings, kept)}

    def has(self, thing):
        """Whether a thing is in the house."""
        word, number = thing
        if word == "box":
            return number in self.box_worths
        return number in self.kept_goings

    def check_worth(self, worth):
        """Refuses what is no worth, and a thing that is not in the house."""
        if not is_worth(worth):
            raise NoWorth("this is no worth")
        if is_thing(worth) and not self.has(worth):
            raise NoThing("this thing is not in the house")

    def check_box(self, b):
        """Refuses what is no box's number."""
        if not is_number(b) or b not in self.box_worths:
            raise NoThing("the house has no such box")

    def check_going(self, g):
        """Refuses what is no going-on's number."""
        if not is_number(g) or g not in self.kept_goings:
            raise NoThing("the house has no such going-on")

    def check_peg(self, name):
        """Refuses what is no peg's name."""
        check_name(name)
        if name not in self.peg_worths:
            raise NoName("no peg has this name")

    def drop(self, thing):
        """Lets go of a thing: what it had holds nothing any more."""
        word, number = thing
        if word == "box":
            self.tally.less([self.box_worths.pop(number)])
        else:
            self.piles.release(self.kept_goings.pop(number)[1])

    def settle(self):
        """Lets go of whatever nothing holds, and of what that alone held, and so on.

        It stands behind each deed that may take a thing from where it stood last.
        """
        loose = self.tally.loosened()
        while len(loose) > 0:
            for thing in loose:
                # A sweep has let go of some of them by itself.
                if self.has(thing):
                    self.drop(thing)
            loose = self.tally.loosened()

    def put(self, worth):
        """Puts a worth on the pile."""
        self.check_worth(worth)
        self.piles.put(worth)

    def take(self, k=0):
        """Takes out the worth k beneath the top, and tells it."""
        check_place(k, self.piles.height())
        worth = self.piles.take(k)
        self.settle()
        return worth

    def lift(self, k):
        """Takes out the worth k beneath the top, and puts it on top."""
        check_place(k, self.piles.height())
        self.piles.put(self.piles.take(k))

    def look(self, k=0):
        """The worth k beneath the top."""
        check_place(k, self.piles.height())
        return self.piles.look(k)

    def height(self):
        """How many worths the running pile has."""
        return self.piles.height()

    def pile(self):
        """The running pile."""
        return self.piles.pile()

    def keep(self, place):
        """Makes a going-on of the running pile, and puts the worth that leads to it on."""
        if not is_count(place):
            raise NoPlace("a place is a whole number from 0 on")
        g = least_free(self.kept_goings)
        self.kept_goings[g] = (place, self.piles.keep())
        self.piles.put(("go", g))
        return g

    def go(self, g, many=0):
        """Goes on with a going-on, and with as many topmost worths; tells its place."""
        self.check_going(g)
        check_place(many, self.piles.height() + 1)
        place, kept = self.kept_goings[g]
        self.piles.go(kept, many)
        self.settle()
        return place

    def box(self):
        """Makes a box of the top, and puts the worth that leads to it on."""
        check_place(0, self.piles.height())
        b = least_free(self.box_worths)
        worth = self.piles.take(0)
        self.box_worths[b] = worth
        self.tally.more([worth])
        self.piles.put(("box", b))
        return b

    def held(self, b):
        """The worth of a box."""
        self.check_box(b)
        return self.box_worths[b]

    def fill(self, b, worth):
        """Gives a box another worth."""
        self.check_worth(worth)
        self.check_box(b)
        self.tally.less([self.box_worths[b]])
        self.tally.more([worth])
        self.box_worths[b] = worth
        self.settle()

    def peg(self, name, worth):
        """Gives a peg a worth; makes the peg where there is none of this name."""
        check_name(name)
        self.check_worth(worth)
        if name in self.peg_worths:
            self.tally.less([self.peg_worths[name]])
        self.tally.more([worth])
        self.peg_worths[name] = worth
        self.settle()

    def pegged(self, name):
        """The worth of a peg."""
        self.check_peg(name)
        return self.peg_worths[name]

    def unpeg(self, name):
        """Takes a peg away."""
        self.check_peg(name)
        self.tally.less([self.peg_worths.pop(name)])
        self.settle()

    def pegs(self):
        """The names of the pegs, sorted."""
        return sorted(self.peg_worths)

    def goings(self):
        """The numbers of the goings-on, rising."""
        return sorted(self.kept_goings)

    def boxes(self):
        """The numbers of the boxes, rising."""
        return sorted(self.box_worths)

    def pile_of(self, g):
        """The pile of a going-on."""
        self.check_going(g)
        return self.piles.pile_of(self.kept_goings[g][1])

    def place_of(self, g):
        """The place of a going-on."""
        self.check_going(g)
        return self.kept_goings[g][0]

    def worths_in(self, thing, seen):
        """The worths that a thing has, but those in what was seen of the piles."""
        word, number = thing
        if word == "box":
            return [self.box_worths[number]]
        return self.piles.unseen_of(self.kept_goings[number][1], seen)

    def found_things(self):
        """The things of the house to which a way leads, as a dict of True.

        The search ends as soon as all are found. It goes through the piles as they are kept,
        because a picture would lay each of them out as a whole.
        """
        many = len(self.box_worths) + len(self.kept_goings)
        seen = {}
        worths = self.piles.unseen(seen) + list(self.peg_worths.values())
        found = {thing: True for thing in things_of(worths)}
        fresh = list(found)
        while len(fresh) > 0 and len(found) < many:
            further = [worth for thing in fresh for worth in self.worths_in(thing, seen)]
            fresh = [thing for thing in things_of(further) if thing not in found]
            for thing in fresh:
                found[thing] = True
        return found

    def sweep(self):
        """Lets go of what is lost, and tells it."""
        found = self.found_things()
        things = [("box", b) for b in self.boxes()] + [("go", g) for g in self.goings()]
        gone = [thing for thing in things if thing not in found]
        for thing in gone:
            self.drop(thing)
        self.settle()
        return gone

    def picture(self):
        """The picture of the house."""
        pegs = [(name, self.peg_worths[name]) for name in sorted(self.peg_worths)]
        goings = [(g, self.place_of(g), self.pile_of(g)) for g in sorted(self.kept_goings)]
        boxes = [(b, self.box_worths[b]) for b in sorted(self.box_worths)]
        return (self.pile(), pegs, goings, boxes)


def copied(picture):
    """A house of copies that is laid from a picture."""
    check_picture(picture)
    house = Copies()
    house.begin(WholePiles(), picture)
    return house
