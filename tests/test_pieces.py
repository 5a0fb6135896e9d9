"""Points 2, 3 and 23 to 30: the pieces, deed by deed, worked out by hand."""

import copy
import unittest

from some_pictures import BRIM, EMPTY

from manygoings.errors import NoPlace, NoSize, NoThing, NoWorth
from manygoings.papers import holders, is_paper
from manygoings.pieces import Pieces, laid
from manygoings.tight import tight

B0, B1, G0, G1, G2 = ("box", 0), ("box", 1), ("go", 0), ("go", 1), ("go", 2)
NO_SIZES = (1, 0, -1, -2, 65, 66, 10 ** 60, -10 ** 60)


def nums(*numbers):
    return [("num", n) for n in numbers]


def rise(low, high):
    return nums(*range(low, high))


def put_all(house, worths):
    for worth in worths:
        house.put(worth)


def take_all(house, many):
    return [house.take() for _ in range(many)]


class ByHand(unittest.TestCase):
    def check(self, house, made, handed, moved, ahead, pieces, tops):
        self.assertEqual((house.made(), house.handed(), house.moved(), house.ahead()),
                         (made, handed, moved, ahead))
        self.assertEqual(house.room(), made - handed)
        self.assertEqual(house.paper(), (pieces, tops))
        self.assertEqual(house.counts(), holders((pieces, tops)))
        self.assertIs(is_paper(house.size(), house.paper()), True)


class Sizes(ByHand):
    def test_new_houses(self):
        for size in range(2, 65):
            house = Pieces(size)
            self.check(house, 1, 0, 0, 0, [], [-1])
            self.assertEqual((house.size(), house.room(), house.counts()), (size, 1, []))

    def test_what_is_no_size(self):
        for size in NO_SIZES:
            with self.subTest(size=size), self.assertRaises(NoSize) as met:
                Pieces(size)
            self.assertIs(type(met.exception), NoSize)


class Puts(ByHand):
    def test_a_full_piece_hands_its_upper_half_on(self):
        house = Pieces(4)
        put_all(house, rise(0, 4))
        self.check(house, 1, 0, 0, 4, [(-1, rise(0, 4))], [0])
        house.put(("num", 4))
        self.check(house, 2, 0, 2, 3, [(1, nums(2, 3, 4)), (-1, nums(0, 1))], [0])
        house.put(("num", 5))
        self.check(house, 2, 0, 2, 4, [(1, rise(2, 6)), (-1, nums(0, 1))], [0])
        house.put(("num", 6))
        self.check(house, 3, 0, 4, 3, [(1, nums(4, 5, 6)), (2, nums(2, 3)), (-1, nums(0, 1))], [0])

    def test_of_an_odd_size_the_lower_part_is_the_greater_one(self):
        house = Pieces(5)
        put_all(house, rise(0, 6))
        self.check(house, 2, 0, 2, 3, [(1, nums(3, 4, 5)), (-1, nums(0, 1, 2))], [0])
        house = Pieces(3)
        put_all(house, rise(0, 5))
        self.check(house, 2, 0, 1, 3, [(1, nums(2, 3, 4)), (-1, nums(0, 1))], [0])
        house.put(("num", 5))
        self.check(house, 3, 0, 2, 2, [(1, nums(4, 5)), (2, nums(2, 3)), (-1, nums(0, 1))], [0])

    def test_every_size(self):
        for size in range(2, 65):
            house = Pieces(size)
            put_all(house, rise(0, size + 1))
            cut = size - size // 2
            self.check(house, 2, 0, size // 2, size // 2 + 1,
                       [(1, rise(cut, size + 1)), (-1, rise(0, cut))], [0])


class Takes(ByHand):
    def test_a_piece_that_nothing_else_holds_becomes_the_running_one(self):
        house = Pieces(4)
        put_all(house, rise(0, 7))
        take_all(house, 3)
        self.check(house, 3, 0, 4, 0, [(1, nums(2, 3)), (-1, nums(0, 1))], [0])
        self.assertEqual(house.take(), ("num", 3))
        self.check(house, 3, 1, 4, 1, [(1, nums(2)), (-1, nums(0, 1))], [0])
        take_all(house, 2)
        self.check(house, 3, 2, 4, 1, [(-1, nums(0))], [0])
        house.take()
        self.check(house, 3, 2, 4, 0, [], [-1])
        house.put(("num", 9))
        self.check(house, 3, 2, 4, 1, [(-1, nums(9))], [0])

    def test_a_piece_that_is_held_is_parted_and_copied(self):
        house = Pieces(4)
        put_all(house, rise(0, 4))
        house.keep(0)
        house.peg("a", G0)
        self.check(house, 2, 0, 0, 1, [(1, [G0]), (-1, rise(0, 4))], [0, 1])
        house.take()
        self.check(house, 2, 0, 0, 0, [(-1, rise(0, 4))], [0, 0])
        self.assertEqual(house.counts(), [2])
        house.take()
        self.check(house, 3, 0, 2, 1, [(1, nums(2)), (-1, nums(0, 1)), (1, nums(2, 3))], [0, 2])
        self.assertEqual(house.counts(), [1, 2, 1])
        house.take()
        self.check(house, 3, 0, 2, 0, [(-1, nums(0, 1)), (0, nums(2, 3))], [0, 1])
        self.assertEqual(house.counts(), [2, 1])
        house.take()
        self.check(house, 3, 0, 4, 1, [(-1, nums(0)), (2, nums(2, 3)), (-1, nums(0, 1))], [0, 1])
        house.take()
        self.check(house, 3, 0, 4, 0, [(1, nums(2, 3)), (-1, nums(0, 1))], [-1, 0])
        self.assertEqual(house.pile_of(0), rise(0, 4))

    def test_of_an_odd_size_a_piece_is_parted_more_than_once(self):
        house = Pieces(5)
        put_all(house, rise(0, 5))
        house.keep(0)
        house.peg("a", G0)
        take_all(house, 2)
        self.check(house, 3, 0, 2, 1, [(1, nums(3)), (-1, nums(0, 1, 2)), (1, nums(3, 4))], [0, 2])
        take_all(house, 2)
        self.check(house, 4, 0, 4, 1,
                   [(1, nums(1)), (-1, nums(0)), (3, nums(3, 4)), (1, nums(1, 2))], [0, 2])
        take_all(house, 2)
        self.check(house, 4, 0, 5, 0, [(1, nums(3, 4)), (2, nums(1, 2)), (-1, nums(0))], [-1, 0])

    def test_no_more_than_half_a_piece_is_not_parted(self):
        for size in range(4, 65):
            house = Pieces(size)
            half = size // 2
            put_all(house, rise(0, half))
            house.keep(0)
            house.peg("a", G0)
            take_all(house, 2)
            self.check(house, 2, 0, half, half - 1, [(-1, rise(0, half - 1)), (-1, rise(0, half))], [0, 1])
            house = Pieces(size)
            put_all(house, rise(0, half + 1))
            house.keep(0)
            house.peg("a", G0)
            take_all(house, 2)
            self.check(house, 3, 0, half, half - 1,
                       [(1, rise(1, half)), (-1, nums(0)), (1, rise(1, half + 1))], [0, 2])

    def test_a_piece_with_another_one_on_it_is_held(self):
        house = Pieces(2)
        put_all(house, rise(0, 2))
        house.keep(0)
        house.keep(1)
        house.peg("a", G1)
        self.check(house, 3, 0, 0, 1, [(1, [G1]), (2, [G0]), (-1, nums(0, 1))], [0, 2, 1])
        take_all(house, 2)
        self.check(house, 3, 0, 1, 0, [(-1, nums(0, 1)), (0, [G0])], [0, 0, 1])
        self.assertEqual(house.counts(), [3, 1])
        self.assertEqual(house.take(), ("num", 1))
        self.check(house, 4, 0, 2, 0, [(-1, nums(0)), (0, nums(1)), (1, [G0])], [0, 1, 2])
        self.assertEqual(house.counts(), [2, 2, 1])

    def test_a_going_that_was_let_go_leaves_its_piece_to_the_running_one(self):
        house = Pieces(4)
        put_all(house, rise(0, 3))
        house.keep(7)
        self.assertEqual(house.take(), G0)
        self.check(house, 2, 0, 0, 0, [(-1, rise(0, 3))], [0])
        self.assertEqual((house.take(), house.goings()), (("num", 2), []))
        self.check(house, 2, 1, 0, 2, [(-1, nums(0, 1))], [0])

    def test_refused(self):
        house = Pieces(2)
        put_all(house, rise(0, 3))
        for error, word, rest in ((NoPlace, "take", (3,)), (NoPlace, "take", (-1,)), (NoPlace, "lift", (3,)),
                                  (NoPlace, "keep", (-1,)), (NoThing, "go", (0,)), (NoWorth, "put", (None,)),
                                  (NoThing, "put", (G0,))):
            with self.assertRaises(error):
                getattr(house, word)(*rest)
            self.check(house, 2, 0, 1, 2, [(1, nums(1, 2)), (-1, nums(0))], [0])
        take_all(house, 3)
        with self.assertRaises(NoPlace):
            house.take()
        with self.assertRaises(NoPlace):
            house.box()
        self.check(house, 2, 1, 1, 0, [], [-1])


class Others(ByHand):
    def test_a_take_from_beneath_takes_and_puts(self):
        house = Pieces(2)
        put_all(house, rise(0, 4))
        self.check(house, 3, 0, 2, 2, [(1, nums(2, 3)), (2, nums(1)), (-1, nums(0))], [0])
        self.assertEqual(house.take(2), ("num", 1))
        # Three takes: the running piece is handed back. Two puts: both go on the other one.
        self.check(house, 3, 1, 2, 2, [(1, nums(2, 3)), (-1, nums(0))], [0])
        self.assertEqual(house.pile(), nums(0, 2, 3))

    def test_a_take_from_beneath_may_fill_a_piece_again(self):
        house = Pieces(4)
        put_all(house, rise(0, 5))
        self.check(house, 2, 0, 2, 3, [(1, nums(2, 3, 4)), (-1, nums(0, 1))], [0])
        house.take(3)
        # The running piece was handed back; the one beneath has 0, and then 2, 3 and 4.
        self.check(house, 2, 1, 2, 4, [(-1, nums(0, 2, 3, 4))], [0])
        house.put(("num", 5))
        self.check(house, 3, 1, 4, 3, [(1, nums(3, 4, 5)), (-1, nums(0, 2))], [0])

    def test_a_lift_takes_and_puts(self):
        house = Pieces(4)
        put_all(house, rise(0, 5))
        house.lift(3)
        self.check(house, 3, 1, 4, 3, [(1, nums(3, 4, 1)), (-1, nums(0, 2))], [0])
        house.lift(0)
        self.check(house, 3, 1, 4, 3, [(1, nums(3, 4, 1)), (-1, nums(0, 2))], [0])

    def test_a_lift_of_the_top_is_a_take_and_a_put(self):
        house = Pieces(4)
        put_all(house, rise(0, 3))
        house.keep(0)
        house.peg("a", G0)
        house.take()
        house.lift(0)
        self.check(house, 3, 0, 2, 2, [(1, nums(1, 2)), (-1, nums(0)), (1, nums(1, 2))], [0, 2])

    def test_a_box_is_a_take_and_a_put(self):
        house = Pieces(2)
        put_all(house, rise(0, 2))
        self.assertEqual(house.box(), 0)
        self.check(house, 1, 0, 0, 2, [(-1, [("num", 0), B0])], [0])
        house.keep(0)
        house.peg("a", G0)
        house.take()
        house.box()
        self.check(house, 3, 0, 1, 1, [(1, [B1]), (-1, nums(0)), (1, [B0])], [0, 2])

    def test_looking_changes_no_piece(self):
        house = Pieces(2)
        put_all(house, rise(0, 5))
        house.keep(0)
        take_all(house, 1)
        before = (house.made(), house.handed(), house.moved(), house.ahead(), house.paper())
        self.assertEqual([house.look(k) for k in range(5)], nums(4, 3, 2, 1, 0))
        self.assertEqual((house.pile(), house.height()), (rise(0, 5), 5))
        house.picture()
        house.counts()
        house.sweep()
        self.assertEqual((house.made(), house.handed(), house.moved(), house.ahead(), house.paper()), before)


class Keeps(ByHand):
    def test_a_running_piece_with_worths_is_kept(self):
        house = Pieces(4)
        put_all(house, rise(0, 3))
        house.keep(7)
        self.check(house, 2, 0, 0, 1, [(1, [G0]), (-1, rise(0, 3))], [0, 1])
        self.assertEqual(house.counts(), [1, 2])

    def test_a_running_piece_without_worths_is_not_kept(self):
        house = Pieces(4)
        house.keep(0)
        self.check(house, 1, 0, 0, 1, [(-1, [G0])], [0, -1])
        house.keep(0)
        self.check(house, 2, 0, 0, 1, [(1, [G1]), (-1, [G0])], [0, -1, 1])
        house.peg("a", G1)
        house.take()
        house.keep(0)
        # The going-on 2 has the piece of the going-on 1, and the running piece is still there.
        self.check(house, 2, 0, 0, 1, [(1, [G2]), (-1, [G0])], [0, -1, 1, 1])
        self.assertEqual(house.counts(), [1, 3])

    def test_a_go_makes_a_new_running_piece(self):
        house = Pieces(4)
        put_all(house, rise(0, 3))
        house.keep(0)
        house.peg("a", G0)
        put_all(house, nums(7, 8))
        self.check(house, 2, 0, 0, 3, [(1, [G0] + nums(7, 8)), (-1, rise(0, 3))], [0, 1])
        house.go(0, 2)
        self.check(house, 3, 1, 0, 2, [(1, nums(7, 8)), (-1, rise(0, 3))], [0, 1])
        house.go(0)
        self.check(house, 4, 2, 0, 0, [(-1, rise(0, 3))], [0, 0])
        house.go(0)
        self.check(house, 5, 3, 0, 0, [(-1, rise(0, 3))], [0, 0])

    def test_worths_that_come_along_are_looked_at_alone(self):
        house = Pieces(2)
        house.keep(0)
        house.peg("a", G0)
        put_all(house, rise(0, 4))
        self.check(house, 4, 0, 3, 2,
                   [(1, nums(2, 3)), (2, nums(1)), (3, nums(0)), (-1, [G0])], [0, -1])
        house.go(0, 4)
        # All four pieces are handed back, and three made for the four worths.
        self.check(house, 7, 4, 5, 2, [(1, nums(2, 3)), (2, nums(1)), (-1, nums(0))], [0, -1])
        house.go(0, 1)
        self.check(house, 8, 7, 5, 1, [(-1, nums(3))], [0, -1])

    def test_a_going_that_has_no_piece(self):
        house = Pieces(2)
        house.keep(5)
        house.peg("a", G0)
        put_all(house, rise(0, 2))
        house.go(0)
        self.check(house, 3, 2, 1, 0, [], [-1, -1])
        self.assertEqual((house.pile(), house.pile_of(0)), ([], []))

    def test_taken_down_without_a_worth_moved(self):
        house = Pieces(4)
        put_all(house, rise(0, 8))
        house.keep(0)
        before = house.moved()
        house.go(0)
        self.assertEqual(house.goings(), [])
        self.assertEqual(take_all(house, 8), rise(0, 8)[::-1])
        self.assertEqual((house.moved(), house.room()), (before, 1))


class HandedBack(ByHand):
    def test_at_once_and_so_on_down(self):
        house = Pieces(2)
        put_all(house, rise(0, 9))
        house.keep(0)
        house.peg("a", G0)
        self.assertEqual(house.room(), 9)
        house.take(1)
        house.unpeg("a")
        self.assertEqual(house.goings(), [0])
        house.keep(1)
        house.peg("a", G1)
        house.go(1)
        while house.height():
            house.take()
        self.assertEqual(house.goings(), [0, 1])
        house.unpeg("a")
        self.check(house, house.made(), house.made() - 1, house.moved(), 0, [], [-1])

    def test_a_long_row_of_pieces(self):
        house = Pieces(2)
        house.keep(0)
        house.peg("a", G0)
        put_all(house, rise(0, 1500))
        self.assertEqual(house.room(), 1500)
        house.keep(1)
        self.assertEqual(house.look(1500), ("num", 0))
        self.assertEqual(house.take(1500), ("num", 0))
        self.assertEqual(house.pile(), [G0] + rise(1, 1500) + [G1])
        house.go(0)
        self.assertEqual((house.room(), house.goings()), (1, [0]))
        self.check(house, house.made(), house.made() - 1, house.moved(), 0, [], [-1, -1])

    def test_a_long_row_of_goings_on(self):
        house = Pieces(2)
        for n in range(700):
            self.assertEqual(house.keep(n), n)
        self.assertEqual((house.room(), house.height()), (700, 700))
        house.peg("a", ("go", 350))
        house.go(0)
        self.assertEqual((len(house.goings()), house.room()), (351, 351))
        house.unpeg("a")
        self.assertEqual((house.goings(), house.room(), house.picture()), ([], 1, EMPTY))

    def test_what_a_handed_piece_had_holds_nothing(self):
        house = Pieces(2)
        put_all(house, rise(0, 1))
        house.box()
        put_all(house, rise(1, 6))
        house.keep(0)
        house.peg("a", G0)
        house.keep(0)
        house.peg("b", G1)
        for _ in range(house.height()):
            house.take()
        self.assertEqual((house.boxes(), house.goings()), ([0], [0, 1]))
        house.unpeg("b")
        self.assertEqual((house.boxes(), house.goings()), ([0], [0]))
        house.unpeg("a")
        self.assertEqual(house.picture(), EMPTY)
        self.assertEqual(house.room(), 1)

    def test_a_sweep_hands_back(self):
        house = Pieces(2)
        put_all(house, rise(0, 4))
        house.keep(0)
        house.box()
        house.put(B0)
        house.keep(0)
        house.fill(0, G1)
        while house.height():
            house.take()
        self.assertEqual((house.boxes(), house.goings()), ([0], [1]))
        self.assertEqual(house.sweep(), [B0, G1])
        self.check(house, house.made(), house.made() - 1, house.moved(), 0, [], [-1])


class Papers(ByHand):
    def test_goings_rise_and_share(self):
        house = Pieces(2)
        house.put(("num", 0))
        house.keep(0)
        house.peg("a", G0)
        house.take()
        put_all(house, [("num", 2), G0])
        self.check(house, 2, 0, 0, 2, [(1, nums(2) + [G0]), (-1, nums(0))], [0, 1])
        house.keep(0)
        house.keep(0)
        self.check(house, 4, 0, 0, 1, [(1, [G2]), (2, [G1]), (3, nums(2) + [G0]), (-1, nums(0))], [0, 3, 2, 1])
        house.go(0)
        self.check(house, 5, 3, 0, 0, [(-1, nums(0))], [0, 0])

    def test_told_papers_are_the_askers_own(self):
        house = laid(2, BRIM)
        before = copy.deepcopy(house.paper())
        rows = []
        for _ in range(2):
            pieces, tops = house.paper()
            rows.extend([pieces, tops, house.counts()] + [worths for _, worths in pieces])
        self.assertEqual(len({id(row) for row in rows}), len(rows))
        for row in rows:
            row.append(7)
            row.reverse()
        self.assertEqual(house.paper(), before)
        self.assertEqual(house.counts(), holders(before))
        told = house.paper()
        house.take(3)
        house.put(("num", 4))
        house.tidy()
        self.assertEqual(told, before)
        self.assertEqual(BRIM[0], [("num", 1), ("box", 2), ("go", 0), ("box", 2)])


class Tidy(ByHand):
    def test_a_house_laid_from_a_picture(self):
        picture = (rise(0, 5) + [G0, G1], [("a", ("num", 9))], [(0, 4, rise(0, 3) + [G1]), (1, 5, rise(0, 5))],
                   [])
        house = laid(2, picture)
        self.check(house, 6, 0, 0, 0,
                   [(1, [G0, G1]), (2, nums(3, 4)), (3, nums(2)), (-1, nums(0, 1)), (2, [G1])], [0, 4, 1])
        self.assertEqual(house.counts(), [1, 2, 2, 1, 1])
        self.assertEqual(house.take(), G1)
        self.check(house, 6, 1, 0, 1,
                   [(1, [G0]), (2, nums(3, 4)), (3, nums(2)), (-1, nums(0, 1)), (2, [G1])], [0, 4, 1])
        self.assertEqual(house.take(1), ("num", 4))
        self.assertEqual(house.picture()[0], rise(0, 4) + [G0])

    def test_houses_laid_are_tight(self):
        for picture in (EMPTY, BRIM):
            for size in (2, 3, 64):
                house = laid(size, picture)
                paper = tight(size, [picture[0]] + [pile for _, _, pile in picture[2]])
                self.check(house, len(paper[0]) + 1, 0, 0, 0, *paper)

    def test_tidy(self):
        house = Pieces(4)
        put_all(house, rise(0, 9))
        self.check(house, 4, 0, 6, 3, [(1, rise(6, 9)), (2, nums(4, 5)), (3, nums(2, 3)), (-1, nums(0, 1))], [0])
        self.assertIsNone(house.tidy())
        self.check(house, 8, 4, 6, 0, [(1, nums(8)), (2, rise(4, 8)), (-1, rise(0, 4))], [0])
        house.tidy()
        self.check(house, 12, 8, 6, 0, [(1, nums(8)), (2, rise(4, 8)), (-1, rise(0, 4))], [0])
        self.assertEqual(take_all(house, 2), nums(8, 7))
        self.check(house, 12, 10, 6, 3, [(1, rise(4, 7)), (-1, rise(0, 4))], [0])

    def test_tidy_of_a_new_house(self):
        house = Pieces(2)
        house.tidy()
        self.check(house, 2, 1, 0, 0, [], [-1])
        self.assertEqual(house.picture(), EMPTY)

    def test_tidy_keeps_the_picture(self):
        for size in (2, 3, 5, 64):
            house = laid(size, BRIM)
            house.keep(3)
            house.put(("num", 5))
            house.keep(3)
            picture = house.picture()
            made, handed, moved, room = house.made(), house.handed(), house.moved(), house.room()
            house.tidy()
            paper = tight(size, [picture[0]] + [pile for _, _, pile in picture[2]])
            self.assertEqual(house.picture(), picture)
            self.check(house, made + len(paper[0]) + 1, handed + room, moved, 0, *paper)
            house.sweep()
            while house.height():
                house.take()
            for name in house.pegs():
                house.unpeg(name)
            self.assertEqual((house.picture(), house.room()), (EMPTY, 1))


if __name__ == "__main__":
    unittest.main()
