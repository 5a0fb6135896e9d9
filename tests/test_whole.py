"""Points 2 and 4 over the whole: deeds, runs, sweeps, tidyings and houses laid anew, in long mixed rows."""

import copy
import random
import re
import unittest

from plain_desk import whole_house
from plain_house import PlainHouse
from plain_machine import plain_run
from some_pictures import random_picture
from some_programs import fitted_program, random_program
from some_rows import Rows, do

from manygoings.copies import Copies, copied
from manygoings.desk import Desk
from manygoings.errors import NoText, PileError
from manygoings.machine import run
from manygoings.papers import holders, is_paper, kept, opened, spots
from manygoings.pictures import is_picture
from manygoings.pieces import Pieces, laid
from manygoings.rings import is_shut, is_way, lost, swept, way_to
from manygoings.texts import read_picture, read_program, show_picture, show_program

NUMBERS = ("made", "handed", "room", "moved", "ahead", "size", "paper", "counts")
SIZES = (2, 3, 4, 5, 8, 9, 16, 63, 64)


def piles_of(picture):
    return [picture[0]] + [pile for _, _, pile in picture[2]]


def state(house):
    words = NUMBERS if isinstance(house, Pieces) else ()
    return [house.picture()] + [getattr(house, word)() for word in words]


def lists_in(thing):
    """Every list within what was told, itself too."""
    found = [thing] if isinstance(thing, list) else []
    for one in thing if isinstance(thing, (list, tuple)) else ():
        found.extend(lists_in(one))
    return found


class Alike(unittest.TestCase):
    def check_paper(self, house, picture):
        piles = piles_of(picture)
        paper = house.paper()
        self.assertIs(is_paper(house.size(), paper), True)
        self.assertEqual([opened(paper, k) for k in range(len(paper[1]))], piles)
        self.assertEqual(house.counts(), holders(paper))
        self.assertLessEqual(spots(piles), kept(paper))
        self.assertLessEqual(kept(paper), sum(len(pile) for pile in piles))
        self.assertEqual(house.room(), house.made() - house.handed())
        # The running piece alone may be without worths, and is not in the paper then.
        self.assertEqual(house.room(), len(paper[0]) + (house.ahead() == 0))

    def check_sweep(self, picture, gone, behind):
        self.assertEqual(gone, lost(picture))
        self.assertIs(is_shut(picture, gone), True)
        self.assertEqual(behind, swept(picture))
        for thing in [("box", b) for b, _ in behind[3]] + [("go", row[0]) for row in behind[2]]:
            self.assertIs(is_way(picture, way_to(picture, thing)), True)

    def read_back(self, picture):
        """The picture, written and read back, but where a number has too many figures."""
        text = show_picture(picture)
        if max(len(figures) for figures in re.findall("[0-9]+", text) + [""]) > 60:
            with self.assertRaises(NoText):
                read_picture(text)
            return picture
        return read_picture(text)

    def some_run(self, rng, plain):
        """A program, how many steps, and from where; wrong ones among them."""
        rows = fitted_program(rng, plain, 40) if rng.random() < 0.7 else random_program(rng, 20)
        if rng.random() < 0.1:
            rows.append(("jump", len(rows) + 2))
        at = 0 if rng.random() < 0.6 else rng.randint(-1, len(rows) + 1)
        return rows, rng.choice((0, 1, 5, 30, 60, 60, -1, 1001)), at

    def run_all(self, houses, plain, rows, steps, at):
        before = copy.deepcopy(rows)
        told = []
        for house in houses:
            as_it_was = state(house)
            try:
                told.append(run(house, rows, steps, at))
            except PileError as why:
                told.append(type(why))
                self.assertEqual(state(house), as_it_was)
        self.assertEqual(told, [told[0]] * len(houses))
        self.assertEqual(rows, before)
        if type(told[0]) is tuple:
            self.assertEqual(plain_run(plain, rows, steps, at), told[0])

    def run_row(self, seed, houses, plain, many):
        rng = random.Random(seed)
        rows = Rows(rng, rng.choice((0.2, 0.4)), rng.choice((10, 40)))
        for n in range(many):
            lean = rng.random()
            if lean < 0.08:
                self.run_all(houses, plain, *self.some_run(rng, plain))
            elif lean < 0.12:
                for house in houses[1:]:
                    house.tidy()
                    self.assertEqual(kept(house.paper()), spots(piles_of(house.picture())))
            elif lean < 0.15:
                picture = plain.picture()
                gone = plain.sweep()
                self.assertEqual([house.sweep() for house in houses], [gone] * len(houses))
                self.check_sweep(picture, gone, plain.picture())
            elif lean < 0.17:
                picture = self.read_back(plain.picture())
                houses = [copied(picture)] + [laid(house.size(), picture) for house in houses[1:]]
            else:
                deed = rows.deed(plain)
                told = do(plain, deed)
                self.assertEqual([do(house, deed) for house in houses], [told] * len(houses), deed)
            picture = plain.picture()
            self.assertEqual([house.picture() for house in houses], [picture] * len(houses))
            if n % 5 == 0:
                self.assertIs(is_picture(picture), True)
                for house in houses[1:]:
                    self.check_paper(house, picture)

    def test_new_houses(self):
        for seed in range(20):
            sizes = random.Random(seed).sample(SIZES, 3)
            with self.subTest(seed=seed):
                self.run_row(seed, [Copies()] + [Pieces(size) for size in sizes], PlainHouse(), 120)

    def test_houses_laid_from_a_picture(self):
        for seed in range(100, 120):
            rng = random.Random(seed)
            sizes = rng.sample(SIZES, 3)
            picture = random_picture(rng, 6, 12)
            with self.subTest(seed=seed):
                self.run_row(seed, [copied(picture)] + [laid(size, picture) for size in sizes],
                             whole_house(picture), 120)

    def test_programs_told_as_text_run_alike(self):
        for seed in range(25):
            rng = random.Random(seed)
            picture = random_picture(rng, 4, 6)
            rows = fitted_program(rng, whole_house(picture), 40)
            text = show_program(rows)
            self.assertEqual(read_program(text), rows)
            told = run(copied(picture), rows, 80)
            for size in SIZES:
                house = laid(size, picture)
                self.assertEqual(run(house, read_program(text), 80), told)
                desk = Desk()
                desk.say(f"size {size}")
                desk.say("load " + show_picture(picture))
                how, at, done = desk.say(f"run 80 {text}").split(" ")[:3]
                self.assertEqual((how, int(at), int(done)), (told[0], told[1], told[3]))
                self.assertEqual(desk.house(), house.picture())


class Great(unittest.TestCase):
    """What the program itself tells is handed in, though it be greater than what point 2 tells."""

    def houses(self):
        rows = [("put", 7), ("keep", 0), ("pick", 0), ("keep", 1), ("box",), ("jump", 0)]
        for house in (Copies(), Pieces(2), Pieces(8), Pieces(64)):
            for at in (0, 4):
                self.assertEqual(run(house, rows, 1000, at)[0], "more")
            yield house

    def test_great_houses(self):
        pictures = []
        for house in self.houses():
            picture = house.picture()
            pictures.append(picture)
            self.assertGreater(house.height(), 1000)
            self.assertIs(is_picture(picture), True)
            self.assertEqual(house.sweep(), [])
            if isinstance(house, Pieces):
                self.assertGreaterEqual(kept(house.paper()), spots(piles_of(picture)))
                house.tidy()
                self.assertEqual(house.picture(), picture)
        self.assertEqual(pictures, pictures[:1] * 4)
        text = show_picture(pictures[0])
        self.assertEqual(read_picture(text), pictures[0])
        self.assertEqual(laid(8, pictures[0]).picture(), pictures[0])

    def test_a_great_picture_swept_a_thousand_times(self):
        pile = [("num", n) for n in range(280)] + [("box", b) for b in range(60)] + [("go", g) for g in range(60)]
        picture = (pile, [], [(g, 0, pile) for g in range(60)], [(b, ("num", b)) for b in range(60)])
        rows = [("drop", 399), ("put", 1), ("box",), ("drop", 0), ("sweep",), ("put", 3), ("jump", 0)]
        told = []
        for house in [copied(picture)] + [laid(size, picture) for size in (2, 8, 64)]:
            told.append((run(house, rows, 1000), house.picture()))
        self.assertEqual(told, told[:1] * 4)

    def test_long_programs_and_texts(self):
        rows = [("put", n) for n in range(3000)]
        self.assertEqual(read_program(show_program(rows)), rows)
        for house in (Copies(), Pieces(2), Pieces(64)):
            at = 0
            for _ in range(3):
                at = run(house, rows, 1000, at)[1]
            self.assertEqual((at, house.height()), (3000, 3000))
            self.assertEqual(house.pile(), [("num", n) for n in range(3000)])


class Lists(unittest.TestCase):
    def test_every_list_that_is_told_is_a_new_one(self):
        for seed in range(12):
            rng = random.Random(seed)
            picture = random_picture(rng, 5, 6)
            for house in (copied(picture), laid(2, picture), laid(8, picture)):
                told = []
                for _ in range(2):
                    told.append(run(house, [("put", 1), ("tell",)], 2))
                    told += [house.pile(), house.pegs(), house.goings(), house.boxes(), house.picture(), swept(picture),
                             house.sweep(), lost(picture)]
                    told += [house.pile_of(g) for g in house.goings()]
                    told += [read_picture(show_picture(picture)), read_program("put 1; tell"), read_program("")]
                    if isinstance(house, Pieces):
                        told += [house.paper(), house.counts()]
                rows = lists_in(tuple(told))
                self.assertEqual(len({id(row) for row in rows}), len(rows))
                before = house.picture()
                for row in rows:
                    row.append(("num", 99))
                self.assertEqual(house.picture(), before)
                self.assertIs(is_picture(picture), True)


if __name__ == "__main__":
    unittest.main()
