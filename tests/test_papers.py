"""Points 2, 3 and 7 to 10: papers, what is told of them, and spots."""

import copy
import itertools
import random
import unittest

from odd_things import Sour

from manygoings.errors import NoPlace, NoSize
from manygoings.papers import holders, is_paper, kept, opened, spots

A, B, C, D, E = [("num", n) for n in range(5)]
# Three piles: A B C, A B D E and none; the first two share a piece.
PAPER = ([(1, [C]), (-1, [A, B]), (1, [D, E])], [0, 2, -1])
NO_SIZES = (1, 0, -1, -2, 65, 66, 10 ** 60, -10 ** 60)


def walk(pieces, at):
    """The pieces from at down; None where the walk does not end."""
    met = []
    while at != -1:
        if at in met:
            return None
        met.append(at)
        at = pieces[at][0]
    return met


def right(size, paper):
    """Point 8, clause by clause."""
    pieces, tops = paper
    if any(len(worths) < 1 or len(worths) > size for _, worths in pieces):
        return False
    numbers = range(-1, len(pieces))
    if any(under not in numbers for under, _ in pieces) or any(top not in numbers for top in tops):
        return False
    if any(walk(pieces, at) is None for at in range(len(pieces))):
        return False
    met = []
    for top in tops:
        met.extend(at for at in walk(pieces, top) if at not in met)
    return met == list(range(len(pieces)))


def tower(many, size):
    """A paper of one pile, whose pieces lie over one another in one row."""
    unders = [k + 1 for k in range(many - 1)] + [-1]
    return ([(under, [("num", under)] * size) for under in unders], [0])


class IsPaper(unittest.TestCase):
    def test_right_papers(self):
        for size, paper in (
                (2, PAPER), (64, PAPER), (2, ([], [])), (2, ([], [-1])), (2, ([], [-1, -1, -1])),
                (2, ([(-1, [A])], [0])), (2, ([(-1, [A, A])], [0, 0, -1, 0])),
                (2, ([(1, [A]), (-1, [A])], [0])), (2, ([(1, [A]), (-1, [A])], [0, 1])),
                (2, ([(-1, [A]), (0, [A])], [0, 1])), (2, ([(-1, [A]), (-1, [A])], [0, 1])),
                (2, ([(-1, [A]), (0, [B])], [-1, 0, -1, 1])),
                (3, ([(2, [A]), (-1, [B]), (3, [A, B, C]), (-1, [A])], [0, 1]))):
            with self.subTest(size=size, paper=paper):
                self.assertIs(is_paper(size, paper), right(size, paper))
        self.assertIs(is_paper(2, PAPER), True)
        self.assertIs(is_paper(2, ([], [])), True)
        self.assertIs(is_paper(2, ([], [-1])), True)

    def test_how_many_worths_a_piece_has(self):
        for size in (2, 3, 63, 64):
            for many, is_right in ((1, True), (size, True), (0, False), (size + 1, False), (500, False)):
                with self.subTest(size=size, many=many):
                    self.assertIs(is_paper(size, ([(-1, [A] * many)], [0])), is_right)
                    self.assertIs(is_paper(size, ([(1, [A]), (-1, [A] * many)], [0])), is_right)

    def test_unders_and_tops_that_are_no_piece(self):
        for at in (-2, -3, 1, 2, 10 ** 60, -10 ** 60):
            with self.subTest(at=at):
                self.assertIs(is_paper(2, ([(at, [A])], [0])), False)
                self.assertIs(is_paper(2, ([(-1, [A])], [0, at])), False)
                self.assertIs(is_paper(2, ([(-1, [A])], [at, 0])), False)
                self.assertIs(is_paper(2, ([(-1, [A]), (at - 1, [A])], [0])), False)
        self.assertIs(is_paper(2, ([], [0])), False)
        self.assertIs(is_paper(2, ([], [-2])), False)
        self.assertIs(is_paper(2, ([], [-1, 1])), False)

    def test_truths_are_no_numbers_of_pieces(self):
        self.assertIs(is_paper(2, ([(-1, [A])], [False])), False)
        self.assertIs(is_paper(2, ([(True, [A]), (-1, [A])], [0])), False)
        self.assertIs(is_paper(2, ([(-1, [A]), (False, [A])], [0, True])), False)

    def test_pieces_that_lie_on_themselves(self):
        for unders, tops in (([0], [0]), ([1, 0], [0]), ([1, 2, 0], [0]), ([1, 2, 1], [0]),
                             ([1, 2, 2], [0]), ([-1, 1], [0, 1]), ([-1, 2, 1], [0, 1]),
                             ([-1, 0, 3, 2], [0, 1, 2]), ([1, 1], [0]), ([0], [0, 0])):
            with self.subTest(unders=unders, tops=tops):
                paper = ([(under, [A]) for under in unders], tops)
                self.assertIs(is_paper(2, paper), False)

    def test_a_ring_that_no_top_comes_to(self):
        self.assertIs(is_paper(2, ([(-1, [A]), (2, [A]), (1, [A])], [0])), False)
        self.assertIs(is_paper(2, ([(0, [A])], [])), False)

    def test_numbered_another_way(self):
        for unders, tops in (([-1, 0], [1]), ([-1, 0], [1, 0]), ([2, -1, -1], [0, 1]),
                             ([-1, -1], [1, 0]), ([1, -1, -1], [0, 0]), ([-1], []), ([-1], [-1]),
                             ([-1, -1], [0]), ([1, -1], [1]), ([2, 0, -1], [1]), ([-1, -1], [1])):
            with self.subTest(unders=unders, tops=tops):
                paper = ([(under, [A]) for under in unders], tops)
                self.assertIs(is_paper(2, paper), False)

    def test_all_small_papers(self):
        for many in range(4):
            leads = range(-2, many + 1)
            for unders in itertools.product(leads, repeat=many):
                pieces = [(under, [A]) for under in unders]
                for tops in itertools.chain.from_iterable(
                        itertools.product(leads, repeat=n) for n in range(4)):
                    paper = (pieces, list(tops))
                    if is_paper(2, paper) is not right(2, paper):
                        self.fail(f"{paper}")

    def test_many_pieces(self):
        for many in (400, 5000):
            paper = tower(many, 2)
            self.assertIs(is_paper(2, paper), True)
            paper[0][-1] = (0, [A])
            self.assertIs(is_paper(2, paper), False)
        wide = ([(-1, [A])] * 5000, list(range(5000)))
        self.assertIs(is_paper(2, wide), True)

    def test_sizes(self):
        for size in (2, 3, 64):
            self.assertIs(is_paper(size, ([(-1, [A, B])], [0])), True)
        for size in NO_SIZES:
            for paper in (PAPER, ([(0, [])], [7]), ([], [])):
                with self.subTest(size=size):
                    with self.assertRaises(NoSize):
                        is_paper(size, paper)

    def test_truths_and_other_things_are_no_sizes(self):
        for size in (True, False, None, 2.0, "2", [2], Sour()):
            with self.assertRaises(NoSize):
                is_paper(size, PAPER)

    def test_the_paper_stays(self):
        for paper in (PAPER, ([(0, [])], [7]), tower(9, 2)):
            before = copy.deepcopy(paper)
            is_paper(2, paper)
            self.assertEqual(paper, before)


class Opened(unittest.TestCase):
    def test_piles(self):
        self.assertEqual(opened(PAPER, 0), [A, B, C])
        self.assertEqual(opened(PAPER, 1), [A, B, D, E])
        self.assertEqual(opened(PAPER, 2), [])
        self.assertEqual(opened(([(1, [C]), (-1, [A])], [0, 1, 0]), 1), [A])

    def test_places(self):
        for k in (-1, -2, -3, 3, 4, 10 ** 60, -10 ** 60):
            with self.subTest(k=k):
                with self.assertRaises(NoPlace):
                    opened(PAPER, k)
        for k in (0, -1, 1):
            with self.assertRaises(NoPlace):
                opened(([], []), k)

    def test_truths_and_other_things_are_no_places(self):
        for k in (True, False, None, 0.0, "0", Sour()):
            with self.assertRaises(NoPlace):
                opened(PAPER, k)

    def test_many_pieces_over_one_another(self):
        for many in (400, 5000):
            pile = opened(tower(many, 3), 0)
            self.assertEqual(len(pile), many * 3)
            self.assertEqual(pile[:4], [("num", -1)] * 3 + [("num", many - 1)])
            self.assertEqual(pile[-1], ("num", 1))

    def test_the_list_is_new(self):
        paper = copy.deepcopy(PAPER)
        for k in range(3):
            told = opened(paper, k)
            told.append(A)
            told[0] = E
            self.assertEqual(paper, PAPER)
            self.assertEqual(opened(paper, k), opened(PAPER, k))
        paper = ([(-1, [A])], [0])
        told = opened(paper, 0)
        paper[0][0][1].append(B)
        self.assertEqual(told, [A])


class Holders(unittest.TestCase):
    def test_holders(self):
        self.assertEqual(holders(PAPER), [1, 2, 1])
        self.assertEqual(holders(([], [])), [])
        self.assertEqual(holders(([], [-1, -1])), [])
        self.assertEqual(holders(([(-1, [A])], [0, -1, 0, 0])), [3])
        self.assertEqual(holders(([(1, [A]), (-1, [A]), (1, [B])], [0, 1, 2, 1, 0])), [2, 4, 1])

    def test_nothing_holds_no_last_piece(self):
        # -1 stands for nothing here, not for the last one of a list.
        self.assertEqual(holders(([(-1, [A]), (-1, [B])], [-1, 0, 1, -1])), [1, 1])

    def test_many(self):
        self.assertEqual(holders(tower(5000, 2)), [1] * 5000)

    def test_the_list_is_new_and_the_paper_stays(self):
        paper = copy.deepcopy(PAPER)
        told = holders(paper)
        told[0] = 9
        self.assertEqual(paper, PAPER)
        self.assertEqual(holders(paper), [1, 2, 1])


class Kept(unittest.TestCase):
    def test_kept(self):
        self.assertEqual(kept(PAPER), 5)
        self.assertEqual(kept(([], [])), 0)
        self.assertEqual(kept(([], [-1])), 0)
        self.assertEqual(kept(([(-1, [A, A, A])], [0, 0])), 3)
        self.assertEqual(kept(tower(5000, 3)), 15000)

    def test_the_paper_stays(self):
        paper = copy.deepcopy(PAPER)
        kept(paper)
        self.assertEqual(paper, PAPER)


class Spots(unittest.TestCase):
    def test_spots(self):
        for piles, many in (
                ([], 0), ([[]], 0), ([[], []], 0), ([[A]], 1), ([[A, A, A]], 3), ([[A], [A]], 1),
                ([[A], [B]], 2), ([[A, B], [A, C]], 3), ([[A, B], [A]], 2), ([[A], [A, B]], 2),
                ([[A, B], [B]], 3), ([[A, B], [C, B]], 4), ([[A, B, C], [A, B, D, E], []], 5)):
            with self.subTest(piles=piles):
                self.assertEqual(spots(piles), many)

    def test_words_count(self):
        self.assertEqual(spots([[("num", 1)], [("at", 1)], [("box", 1)], [("go", 1)], [("num", -1)]]), 5)

    def test_as_the_point_says(self):
        chance = random.Random(10)
        for _ in range(300):
            piles = [chance.choices([A, B, C], k=chance.randrange(6)) for _ in range(chance.randrange(6))]
            found = {tuple(pile[:n]) for pile in piles for n in range(1, len(pile) + 1)}
            self.assertEqual(spots(piles), len(found))

    def test_many(self):
        base = [("num", 10 ** 59 + k) for k in range(399)]
        self.assertEqual(spots([base + [("box", k)] for k in range(60)]), 399 + 60)
        self.assertEqual(spots([[("box", k)] + base for k in range(60)]), 60 * 400)

    def test_the_piles_stay(self):
        piles = [[A, B], [A], [], [A, B]]
        before = copy.deepcopy(piles)
        spots(piles)
        self.assertEqual(piles, before)


if __name__ == "__main__":
    unittest.main()
