"""Points 2, 3, 11 and 12: the tight paper."""

import copy
import itertools
import random
import unittest

from odd_things import Sour

from manygoings.errors import NoSize
from manygoings.papers import is_paper, kept, opened, spots
from manygoings.tight import tight

A, B, C, D, E, F, G = [("num", n) for n in range(7)]
EVERY_SIZE = range(2, 65)


def beginnings(piles):
    return {tuple(pile[:n]) for pile in piles for n in range(len(pile) + 1)} | {()}


def stops(piles):
    """Point 11, as it says."""
    starts = beginnings(piles)
    return [start for start in starts
            if start == () or start in [tuple(pile) for pile in piles]
            or len([other for other in starts if len(other) == len(start) + 1
                    and other[:len(start)] == start]) >= 2]


def plain_tight(size, piles):
    """Point 11, as it says: each piece by the beginning that it ends with, then the numbers."""
    all_stops = stops(piles)
    made = {}
    for stop in all_stops:
        if stop == ():
            continue
        low = max((other for other in all_stops if other != stop and stop[:len(other)] == other), key=len)
        under = low
        for at in range(len(low), len(stop), size):
            end = stop[:min(at + size, len(stop))]
            made[end] = (under, list(end[len(under):]))
            under = end
    numbers = {}
    for pile in piles:
        at = tuple(pile)
        while at != ():
            numbers.setdefault(at, len(numbers))
            at = made[at][0]
    pieces = [(numbers.get(made[end][0], -1), made[end][1]) for end in numbers]
    return (pieces, [numbers.get(tuple(pile), -1) for pile in piles])


def all_papers(size, piles):
    """Every right paper for a size that lays open these piles, perhaps some twice."""
    grown = [([], [])]
    for pile in piles:
        ahead = []
        for pieces, tops in grown:
            ahead.extend((more, tops + [top]) for more, top in chains(size, pieces, -1, tuple(pile)))
        grown = ahead
    return [numbered(pieces, tops) for pieces, tops in grown]


def chains(size, pieces, at, left):
    """Each way to lay what is left of a pile on the piece at, on old or new pieces."""
    if not left:
        return [(pieces, at)]
    found = []
    for many in range(1, min(size, len(left)) + 1):
        piece = (at, left[:many])
        for k, other in enumerate(pieces):
            if other == piece:
                found.extend(chains(size, pieces, k, left[many:]))
        found.extend(chains(size, pieces + [piece], len(pieces), left[many:]))
    return found


def numbered(pieces, tops):
    numbers = {}
    for at in tops:
        while at != -1:
            numbers.setdefault(at, len(numbers))
            at = pieces[at][0]
    return ([(numbers.get(pieces[at][0], -1), list(pieces[at][1])) for at in numbers],
            [numbers.get(top, -1) for top in tops])


def small_piles(worths, most):
    return [list(pile) for n in range(most + 1) for pile in itertools.product(worths, repeat=n)]


def chance_piles(chance, words, most, high):
    piles = []
    for _ in range(chance.randrange(most + 1)):
        ahead = chance.choice(piles) if piles and chance.random() < 0.7 else []
        ahead = ahead[:chance.randrange(len(ahead) + 1)]
        piles.append(ahead + chance.choices(words, k=chance.randrange(high)))
    return piles


class Tight(unittest.TestCase):
    def test_one_pile_is_cut_from_below(self):
        pile = [A, B, C, D, E]
        self.assertEqual(tight(2, [pile]), ([(1, [E]), (2, [C, D]), (-1, [A, B])], [0]))
        self.assertEqual(tight(3, [pile]), ([(1, [D, E]), (-1, [A, B, C])], [0]))
        self.assertEqual(tight(4, [pile]), ([(1, [E]), (-1, [A, B, C, D])], [0]))
        for size in (5, 6, 64):
            self.assertEqual(tight(size, [pile]), ([(-1, pile)], [0]))

    def test_an_even_cut_leaves_no_empty_piece(self):
        self.assertEqual(tight(2, [[A, B, C, D]]), ([(1, [C, D]), (-1, [A, B])], [0]))
        self.assertEqual(tight(2, [[A, B]]), ([(-1, [A, B])], [0]))

    def test_no_piles_and_no_worths(self):
        for size in EVERY_SIZE:
            self.assertEqual(tight(size, []), ([], []))
            self.assertEqual(tight(size, [[]]), ([], [-1]))
            self.assertEqual(tight(size, [[], []]), ([], [-1, -1]))
            self.assertEqual(tight(size, [[], [A], []]), ([(-1, [A])], [-1, 0, -1]))

    def test_piles_that_are_alike(self):
        for size in EVERY_SIZE:
            self.assertEqual(tight(size, [[A, B], [A, B], [A, B]]), ([(-1, [A, B])], [0, 0, 0]))

    def test_beginnings_of_others(self):
        self.assertEqual(tight(4, [[A, B, C], [A]]), ([(1, [B, C]), (-1, [A])], [0, 1]))
        self.assertEqual(tight(4, [[A], [A, B, C]]), ([(-1, [A]), (0, [B, C])], [0, 1]))
        self.assertEqual(tight(2, [[A, B, C, D], [A]]), ([(1, [D]), (2, [B, C]), (-1, [A])], [0, 2]))

    def test_piles_that_part(self):
        self.assertEqual(tight(4, [[A, B, C], [A, B, D, E], []]),
                         ([(1, [C]), (-1, [A, B]), (1, [D, E])], [0, 2, -1]))
        self.assertEqual(tight(2, [[A, B], [C, B]]), ([(-1, [A, B]), (-1, [C, B])], [0, 1]))

    def test_a_stop_that_is_no_pile(self):
        paper = tight(3, [[A, B, C, D, E], [A, B, C, D, F, G]])
        self.assertEqual(paper, ([(1, [E]), (2, [D]), (-1, [A, B, C]), (1, [F, G])], [0, 3]))

    def test_like_worths_apart_are_not_shared(self):
        self.assertEqual(tight(2, [[A, A, A]]), ([(1, [A]), (-1, [A, A])], [0]))
        self.assertEqual(tight(2, [[B, A], [C, A]]), ([(-1, [B, A]), (-1, [C, A])], [0, 1]))
        self.assertEqual(tight(2, [[("num", 1)], [("box", 1)]])[1], [0, 1])

    def test_as_the_point_says(self):
        chance = random.Random(11)
        for _ in range(400):
            piles = chance_piles(chance, [A, B, C], 6, 9)
            for size in (2, 3, 4, 5, 64):
                self.assertEqual(tight(size, piles), plain_tight(size, piles))

    def test_all_small_piles_as_the_point_says(self):
        for piles in itertools.product(small_piles([A, B], 3), repeat=2):
            for size in (2, 3, 4):
                self.assertEqual(tight(size, list(piles)), plain_tight(size, list(piles)))

    def test_sizes(self):
        for size in (1, 0, -1, -2, 65, 66, 10 ** 60, -10 ** 60):
            for piles in ([], [[]], [[A, B, C], [A]]):
                with self.subTest(size=size):
                    with self.assertRaises(NoSize):
                        tight(size, piles)

    def test_truths_and_other_things_are_no_sizes(self):
        for size in (True, False, None, 2.0, "2", [2], Sour()):
            with self.assertRaises(NoSize):
                tight(size, [[A]])

    def test_sizes_at_the_edges(self):
        pile = [("num", k) for k in range(130)]
        self.assertEqual([len(worths) for _, worths in tight(64, [pile])[0]], [2, 64, 64])
        self.assertEqual([len(worths) for _, worths in tight(2, [pile])[0]], [2] * 65)


class Told(unittest.TestCase):
    def test_it_is_right_lays_open_and_keeps_the_spots(self):
        chance = random.Random(12)
        for _ in range(200):
            piles = chance_piles(chance, [A, B, ("box", 0)], 8, 40)
            for size in (2, 3, 7, 63, 64):
                paper = tight(size, piles)
                self.assertIs(is_paper(size, paper), True)
                self.assertEqual([opened(paper, k) for k in range(len(piles))], piles)
                self.assertEqual(kept(paper), spots(piles))

    def check_least(self, size, piles):
        paper = tight(size, piles)
        many = (kept(paper), len(paper[0]))
        self.assertEqual(many[0], spots(piles))
        others = all_papers(size, piles)
        self.assertIn(paper, others)
        for other in others:
            self.assertLessEqual(many, (kept(other), len(other[0])))

    def test_no_right_paper_keeps_less(self):
        for piles in itertools.product(small_piles([A, B], 3), repeat=2):
            self.check_least(2, list(piles))
            self.check_least(3, list(piles))
        for piles in itertools.product(small_piles([A, B], 2), repeat=3):
            self.check_least(2, list(piles))

    def test_no_right_paper_keeps_less_of_higher_piles(self):
        chance = random.Random(13)
        for _ in range(60):
            piles = [pile[:6] for pile in chance_piles(chance, [A, B], 2, 7)]
            self.check_least(2, piles)
            self.check_least(3, piles)

    def test_many(self):
        base = [("num", 10 ** 59 + k) for k in range(800)]
        chance = random.Random(14)
        piles = [base[:chance.randrange(801)] + [("go", k)] * chance.randrange(100) for k in range(120)]
        for size in (2, 5, 64):
            paper = tight(size, piles)
            self.assertIs(is_paper(size, paper), True)
            self.assertEqual([opened(paper, k) for k in range(len(piles))], piles)
            self.assertEqual(kept(paper), spots(piles))

    def test_four_hundred_pieces_over_one_another(self):
        pile = [("num", k) for k in range(800)]
        piles = [pile[:k * 2] for k in range(401)]
        paper = tight(2, piles)
        self.assertEqual(paper, ([(k - 1, pile[k * 2:k * 2 + 2]) for k in range(400)],
                                 [k - 1 for k in range(401)]))


class Lists(unittest.TestCase):
    def test_what_is_handed_in_stays(self):
        piles = [[A, B, C], [A, B], [], [A, B, C], [D]]
        before = copy.deepcopy(piles)
        tight(2, piles)
        self.assertEqual(piles, before)

    def test_what_is_told_is_the_askers_own(self):
        piles = [[A, A, A, A], [B], [A, A, A, A]]
        before = copy.deepcopy(piles)
        pieces, tops = tight(2, piles)
        lists = [pieces, tops] + [worths for _, worths in pieces] + piles + [piles]
        self.assertEqual(len({id(one) for one in lists}), len(lists))
        for one in [worths for _, worths in pieces] + [tops, pieces]:
            one.clear()
        self.assertEqual(piles, before)
        self.assertEqual(tight(2, piles), tight(2, before))
        self.assertEqual(tight(2, []), ([], []))

    def test_what_is_done_to_the_piles_later_changes_nothing(self):
        piles = [[A], [A, B]]
        told = tight(2, piles)
        piles[0].append(C)
        piles[1].clear()
        piles.clear()
        self.assertEqual(told, ([(-1, [A]), (0, [B])], [0, 1]))

    def test_empty_papers_are_new(self):
        told = tight(2, [])
        told[0].append(1)
        told[1].append(1)
        self.assertEqual(tight(2, []), ([], []))


if __name__ == "__main__":
    unittest.main()
