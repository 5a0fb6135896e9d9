"""Houses for the tests: the deeds as the table of point 20 tells them, as plainly as may be.

PlainHouse keeps each pile as a list. PlainPieces keeps them in pieces, as points 23 to 30 tell,
and counts nothing: it looks through all pieces wherever it asks what holds one.
"""

from some_pictures import is_thing, plain_reached, plain_things

from manygoings.errors import NoName, NoPlace, NoThing, NoWorth
from manygoings.tight import tight
from manygoings.worths import is_worth


def is_name(name):
    return isinstance(name, str) and 1 <= len(name) <= 8 and all("a" <= sign <= "z" for sign in name)


class PlainHouse:
    def __init__(self):
        self.worths, self.on_pegs, self.kept, self.inside = [], {}, {}, {}

    # How the running pile is kept.

    def whole(self):
        return list(self.worths)

    def put_on(self, worth):
        self.worths.append(worth)

    def take_off(self):
        return self.worths.pop()

    def keep_it(self):
        return list(self.worths)

    def kept_pile(self, kept):
        return list(kept)

    def go_on(self, kept, along):
        self.worths = list(kept) + along

    # What is refused.

    def check(self, worth):
        if not is_worth(worth):
            raise NoWorth("")
        if is_thing(worth) and worth[1] not in (self.inside if worth[0] == "box" else self.kept):
            raise NoThing("")

    def check_in(self, number, table):
        if number not in table:
            raise NoThing("")

    def check_place(self, k, many):
        if not 0 <= k < many:
            raise NoPlace("")

    def check_peg(self, name):
        if not is_name(name) or name not in self.on_pegs:
            raise NoName("")

    def least(self, table):
        return min(n for n in range(len(table) + 1) if n not in table)

    def let_go(self):
        """Point 21."""
        while True:
            pile, pegs, goings, boxes = self.picture()
            rows = [pile, [worth for _, worth in pegs], [worth for _, worth in boxes]]
            held = {worth for row in rows + [one[2] for one in goings] for worth in row}
            gone = [thing for thing in plain_things((pile, pegs, goings, boxes)) if thing not in held]
            if not gone:
                return
            self.lose(gone)

    def lose(self, gone):
        for word, number in gone:
            del (self.inside if word == "box" else self.kept)[number]

    # The deeds.

    def put(self, worth):
        self.check(worth)
        self.put_on(worth)
        self.let_go()

    def take(self, k=0):
        self.check_place(k, self.height())
        above = [self.take_off() for _ in range(k)]
        worth = self.take_off()
        for one in above[::-1]:
            self.put_on(one)
        self.let_go()
        return worth

    def lift(self, k):
        self.check_place(k, self.height())
        above = [self.take_off() for _ in range(k)]
        worth = self.take_off()
        for one in above[::-1] + [worth]:
            self.put_on(one)
        self.let_go()

    def look(self, k=0):
        self.check_place(k, self.height())
        return self.whole()[::-1][k]

    def height(self):
        return len(self.whole())

    def pile(self):
        return self.whole()

    def keep(self, place):
        if place < 0:
            raise NoPlace("")
        g = self.least(self.kept)
        self.kept[g] = (place, self.keep_it())
        self.put_on(("go", g))
        self.let_go()
        return g

    def go(self, g, many=0):
        self.check_in(g, self.kept)
        self.check_place(many, self.height() + 1)
        place, kept = self.kept[g]
        self.go_on(kept, self.whole()[self.height() - many:])
        self.let_go()
        return place

    def box(self):
        self.check_place(0, self.height())
        b = self.least(self.inside)
        self.inside[b] = self.take_off()
        self.put_on(("box", b))
        self.let_go()
        return b

    def held(self, b):
        self.check_in(b, self.inside)
        return self.inside[b]

    def fill(self, b, worth):
        self.check(worth)
        self.check_in(b, self.inside)
        self.inside[b] = worth
        self.let_go()

    def peg(self, name, worth):
        if not is_name(name):
            raise NoName("")
        self.check(worth)
        self.on_pegs[name] = worth
        self.let_go()

    def pegged(self, name):
        self.check_peg(name)
        return self.on_pegs[name]

    def unpeg(self, name):
        self.check_peg(name)
        del self.on_pegs[name]
        self.let_go()

    def pegs(self):
        return sorted(self.on_pegs)

    def goings(self):
        return sorted(self.kept)

    def boxes(self):
        return sorted(self.inside)

    def pile_of(self, g):
        self.check_in(g, self.kept)
        return self.kept_pile(self.kept[g][1])

    def place_of(self, g):
        self.check_in(g, self.kept)
        return self.kept[g][0]

    def sweep(self):
        picture = self.picture()
        stay = plain_reached(picture)
        gone = [thing for thing in plain_things(picture) if thing not in stay]
        self.lose(gone)
        self.let_go()
        return gone

    def picture(self):
        return (self.whole(), [(name, self.on_pegs[name]) for name in sorted(self.on_pegs)],
                [(g, self.kept[g][0], self.kept_pile(self.kept[g][1])) for g in sorted(self.kept)],
                [(b, self.inside[b]) for b in sorted(self.inside)])


class Sheet:
    def __init__(self, under, worths):
        self.under, self.worths = under, worths


class PlainPieces(PlainHouse):
    def __init__(self, size):
        super().__init__()
        self.most, self.half = size, size // 2
        self.sheets = []
        self.makes, self.hands, self.moves = 0, 0, 0
        self.running = self.new(None, [])

    def new(self, under, worths):
        sheet = Sheet(under, worths)
        self.sheets.append(sheet)
        self.makes += 1
        return sheet

    def holders(self, sheet):
        """Point 23."""
        return sum(one.under is sheet for one in self.sheets) + (sheet is self.running) \
            + sum(kept is sheet for _, kept in self.kept.values())

    def hand_back(self):
        """Point 27."""
        while True:
            stay = [sheet for sheet in self.sheets if self.holders(sheet) > 0]
            if len(stay) == len(self.sheets):
                return
            self.hands += len(self.sheets) - len(stay)
            self.sheets = stay

    def lose(self, gone):
        super().lose(gone)
        self.hand_back()

    def whole(self):
        return self.kept_pile(self.running)

    def kept_pile(self, kept):
        pile = []
        while kept is not None:
            pile = kept.worths + pile
            kept = kept.under
        return pile

    def put_on(self, worth):
        if len(self.running.worths) == self.most:
            full = self.running
            self.running = self.new(full, full.worths[self.most - self.half:])
            full.worths = full.worths[:self.most - self.half]
            self.moves += self.half
        self.running.worths.append(worth)

    def take_off(self):
        if not self.running.worths:
            low = self.running.under
            if self.holders(low) == 1:
                self.running = low
                self.hand_back()
            else:
                if len(low.worths) > self.half:
                    cut = len(low.worths) - self.half
                    low.under = self.new(low.under, low.worths[:cut])
                    low.worths = low.worths[cut:]
                self.running.worths = list(low.worths)
                self.running.under = low.under
                self.moves += len(low.worths)
        return self.running.worths.pop()

    def keep_it(self):
        if not self.running.worths:
            return self.running.under
        kept = self.running
        self.running = self.new(kept, [])
        return kept

    def go_on(self, kept, along):
        self.running = self.new(kept, [])
        self.hand_back()
        for worth in along:
            self.put_on(worth)

    def numbered(self):
        """The pieces that the paper has, in their order, and its tops."""
        first = self.running if self.running.worths else self.running.under
        tops = [first] + [self.kept[g][1] for g in self.goings()]
        order = []
        for at in tops:
            while at is not None and at not in order:
                order.append(at)
                at = at.under
        return order, tops

    def paper(self):
        order, tops = self.numbered()
        numbers = {None: -1}
        for sheet in order:
            numbers[sheet] = len(numbers) - 1
        return ([(numbers[sheet.under], list(sheet.worths)) for sheet in order],
                [numbers[top] for top in tops])

    def counts(self):
        return [self.holders(sheet) for sheet in self.numbered()[0]]

    def made(self):
        return self.makes

    def handed(self):
        return self.hands

    def room(self):
        return len(self.sheets)

    def moved(self):
        return self.moves

    def ahead(self):
        return len(self.running.worths)

    def size(self):
        return self.most

    def tidy(self):
        self.hands += len(self.sheets)
        self.lay(self.picture())

    def lay(self, picture):
        pieces, tops = tight(self.most, [picture[0]] + [pile for _, _, pile in picture[2]])
        self.sheets = [Sheet(None, list(worths)) for _, worths in pieces]
        for sheet, (under, _) in zip(self.sheets, pieces):
            sheet.under = None if under == -1 else self.sheets[under]
        laid = [None if top == -1 else self.sheets[top] for top in tops]
        self.makes += len(self.sheets)
        self.kept = {g: (place, top) for (g, place, _), top in zip(picture[2], laid[1:])}
        self.running = self.new(laid[0], [])


def plain_laid(size, picture):
    house = PlainPieces(size)
    house.makes = 0
    house.lay(picture)
    house.on_pegs, house.inside = dict(picture[1]), dict(picture[3])
    return house
