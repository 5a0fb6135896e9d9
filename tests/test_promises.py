"""Points 4, 21, 27, 29 and 31: long rows of mixed deeds, on houses of every kind alike."""

import random
import unittest

from plain_house import PlainHouse, PlainPieces, plain_laid
from some_pictures import random_picture
from some_rows import Rows, do

from manygoings.copies import Copies, copied
from manygoings.papers import holders, is_paper, kept, opened, spots
from manygoings.pictures import is_picture
from manygoings.pieces import Pieces, laid
from manygoings.rings import is_shut, is_way, lost, swept, way_to

NUMBERS = ("made", "handed", "room", "moved", "ahead", "size", "paper", "counts")
SIZES = (2, 3, 4, 5, 6, 7, 8, 9, 16, 63, 64)


def piles_of(picture):
    return [picture[0]] + [pile for _, _, pile in picture[2]]


def worn_house(rng, size, many=120):
    """A house of pieces behind a row of mixed deeds."""
    house = Pieces(size)
    rows = Rows(rng, rng.choice((0.2, 0.4)), 4 * size)
    for _ in range(many):
        do(house, rows.deed(house))
    return house


def beneath(paper, tops):
    """The numbers of all pieces that the piles of some tops have."""
    found = set()
    for at in tops:
        while at != -1:
            found.add(at)
            at = paper[0][at][0]
    return found


class Alike(unittest.TestCase):
    def check_pieces(self, house, plain, picture):
        """The pieces are those of the plain house, and the paper is right."""
        told = [getattr(house, word)() for word in NUMBERS]
        self.assertEqual(told, [getattr(plain, word)() for word in NUMBERS])
        paper, counts = told[-2:]
        piles = piles_of(picture)
        self.assertIs(is_paper(house.size(), paper), True)
        self.assertEqual([opened(paper, k) for k in range(len(piles))], piles)
        self.assertEqual((len(paper[1]), counts), (len(piles), holders(paper)))
        self.assertLessEqual(spots(piles), kept(paper))
        self.assertLessEqual(kept(paper), sum(len(pile) for pile in piles))

    def check_moves(self, house, deed, refused, moved):
        moves = house.moved() - moved
        if refused or deed[0] in ("keep", "look", "fill", "peg", "unpeg", "sweep") \
                or (deed[0] == "go" and len(deed) == 2):
            self.assertEqual(moves, 0)
        elif deed[0] in ("put", "box") or deed in (("take",), ("take", 0)):
            self.assertLessEqual(moves, house.size() // 2)

    def run_row(self, rng, houses, rows, many):
        """Does a row of deeds on (copies, pieces, a plain house, plain pieces), which are alike."""
        copies, pieces, plain, plain_pieces = houses
        for n in range(many):
            deed = rows.deed(plain)
            moved = pieces.moved()
            before = None
            told = do(plain, deed)
            refused = type(told) is type
            if refused:
                before = [pieces.picture()] + [getattr(pieces, word)() for word in NUMBERS]
            for house in (copies, pieces, plain_pieces):
                again = do(house, deed)
                self.assertEqual((again, type(again)), (told, type(told)), deed)
            picture = plain.picture()
            self.assertEqual(copies.picture(), picture)
            self.assertEqual(pieces.picture(), picture)
            self.assertEqual(pieces.height(), len(picture[0]))
            if refused:
                self.assertEqual(
                    before, [pieces.picture()] + [getattr(pieces, word)() for word in NUMBERS])
            self.check_moves(pieces, deed, refused, moved)
            if rng.random() < 0.02:
                pieces.tidy()
                plain_pieces.tidy()
                self.assertEqual(kept(pieces.paper()), spots(piles_of(picture)))
            if n % 3 == 0:
                self.assertIs(is_picture(picture), True)
                self.check_pieces(pieces, plain_pieces, picture)

    def test_new_houses(self):
        for seed in range(44):
            rng = random.Random(seed)
            size = SIZES[seed % len(SIZES)]
            rows = Rows(rng, rng.choice((0.1, 0.3, 0.5)), rng.choice((5, 20, 3 * size)))
            with self.subTest(seed=seed):
                self.run_row(rng, (Copies(), Pieces(size), PlainHouse(), PlainPieces(size)), rows, 250)

    def test_houses_laid_from_a_picture(self):
        for seed in range(100, 144):
            rng = random.Random(seed)
            size = SIZES[seed % len(SIZES)]
            picture = random_picture(rng, 6, 2 * size)
            plain = plain_laid(2, picture)
            houses = (copied(picture), laid(size, picture), plain, plain_laid(size, picture))
            with self.subTest(seed=seed):
                self.assertEqual([house.picture() for house in houses], [picture] * 4)
                self.run_row(rng, houses, Rows(rng, 0.2, 3 * size), 100)

    def test_laid_anew_within_a_row(self):
        for seed in range(200, 240):
            rng = random.Random(seed)
            plain, house = PlainHouse(), Pieces(rng.choice(SIZES))
            rows = Rows(rng, 0.3, 30)
            with self.subTest(seed=seed):
                for n in range(200):
                    deed = rows.deed(plain)
                    self.assertEqual(do(house, deed), do(plain, deed))
                    if n % 10 == 9:
                        self.assertEqual(house.picture(), plain.picture())
                        house = laid(rng.choice(SIZES), house.picture()) if n % 20 == 19 \
                            else copied(house.picture())

    def test_tall_piles_of_some_hundred_pieces(self):
        for seed, size in ((300, 2), (301, 3), (302, 4)):
            rng = random.Random(seed)
            houses = (Copies(), Pieces(size), PlainHouse())
            for n in range(600):
                for house in houses:
                    house.put(("num", n))
                    if n % 50 == 49:
                        house.keep(n)
            rows = Rows(rng, 0.3, 700)
            for n in range(150):
                deed = rows.deed(houses[2])
                self.assertEqual(*[do(house, deed) for house in houses[:2]])
                do(houses[2], deed)
                if n % 10 == 0:
                    picture = houses[2].picture()
                    self.assertEqual([house.picture() for house in houses[:2]], [picture] * 2)
                    paper = houses[1].paper()
                    self.assertIs(is_paper(size, paper), True)
                    self.assertEqual(houses[1].counts(), holders(paper))
                    self.assertEqual([opened(paper, k) for k in range(len(paper[1]))], piles_of(picture))

    def test_sweeps_let_go_of_just_what_no_way_leads_to(self):
        many = 0
        for seed in range(400, 440):
            rng = random.Random(seed)
            house, rows = Pieces(rng.choice(SIZES)), Rows(rng, 0.2, 20)
            for n in range(150):
                deed = rows.deed(house)
                if deed != ("sweep",):
                    do(house, deed)
                if n % 50 == 49:
                    picture = house.picture()
                    gone = house.sweep()
                    many += len(gone)
                    self.assertEqual(gone, lost(picture))
                    self.assertEqual(house.picture(), swept(picture))
                    self.assertIs(is_shut(picture, gone), True)
                    for thing in [("box", b) for b in house.boxes()] + [("go", g) for g in house.goings()]:
                        self.assertIs(is_way(picture, way_to(picture, thing)), True)
                    house.tidy()
                    paper = house.paper()
                    self.assertEqual(kept(paper), spots(piles_of(house.picture())))
        self.assertGreater(many, 10)


class Moves(unittest.TestCase):
    def test_rows_of_puts_and_plain_takes(self):
        for seed in range(120):
            rng = random.Random(seed)
            size = rng.choice(SIZES)
            house = worn_house(rng, size)
            if rng.random() < 0.5:
                house.tidy()
            for lean in (0.5, 0.1, 0.5, 0.9, 0.5):
                moved, made = house.moved(), house.made()
                many = rng.randint(1, 3 * size)
                for n in range(many):
                    if house.height() and rng.random() < lean:
                        house.take()
                    else:
                        house.put(("num", n))
                    self.assertLessEqual(house.moved() - moved, 2 * (n + 1) + size)
                    self.assertLessEqual((house.made() - made - 2) * (size // 2), 2 * (n + 1))

    def test_nothing_goes_to_and_fro_at_an_edge(self):
        for size in SIZES:
            half = size // 2
            house = Pieces(size)
            for n in range(size):
                house.put(("num", n))
            for _ in range(200):
                house.put(("num", 0))
                house.take()
            self.assertEqual((house.moved(), house.made()), (half, 2))
            house.keep(0)
            house.peg("a", ("go", 0))
            house.take()
            moved, made = house.moved(), house.made()
            for _ in range(200):
                house.put(house.take())
            self.assertLessEqual(house.moved() - moved, half)
            self.assertLessEqual(house.made() - made, 1)

    def test_no_take_moves_a_worth_behind_puts_and_keeps_and_plain_takes(self):
        for seed in range(60):
            rng = random.Random(seed)
            house = Pieces(rng.choice(SIZES))
            for n in range(400):
                moved = house.moved()
                lean = rng.random()
                if house.height() and lean < 0.45:
                    house.take()
                    self.assertEqual(house.moved(), moved)
                elif lean < 0.6:
                    house.keep(n)
                    self.assertEqual(house.moved(), moved)
                else:
                    house.put(rng.choice([("num", n)] + [("go", g) for g in house.goings()]))

    def test_a_going_that_is_let_go_is_taken_down_without_a_move(self):
        many = 0
        for seed in range(600):
            rng = random.Random(seed)
            house = worn_house(rng, rng.choice((2, 3, 4, 5, 8)), 60)
            if not house.goings():
                continue
            g = rng.choice(house.goings())
            house.go(g)
            paper = house.paper()
            own, others = beneath(paper, paper[1][:1]), beneath(paper, paper[1][1:])
            if g in house.goings() or not own or own & others:
                continue
            many += 1
            moved = house.moved()
            while house.height():
                house.take()
            self.assertEqual(house.moved(), moved)
        self.assertGreater(many, 20)

    def test_how_many_pieces_there_are_behind_puts_and_plain_takes(self):
        for size in SIZES:
            rng = random.Random(size)
            house = Pieces(size)
            for lean in (0.1, 0.9, 0.5, 0.3, 0.7):
                for n in range(3 * size + 40):
                    if house.height() and rng.random() < lean:
                        house.take()
                    else:
                        house.put(("num", n))
                    self.assertLessEqual((house.room() - 1) * (size - size // 2), house.height())


if __name__ == "__main__":
    unittest.main()
