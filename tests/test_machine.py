"""Points 2, 3 and 33 to 35: runs, on a house of copies and on houses of pieces alike."""

import copy
import random
import unittest

from odd_things import odd_things
from plain_house import PlainHouse, plain_laid
from plain_machine import plain_run
from some_pictures import BRIM, EMPTY, fresh, random_picture
from some_programs import DOWN, EACH_ROW, RINGS, SUM, THRICE, fitted_program, random_program

from manygoings.copies import Copies, copied
from manygoings.errors import NoPlace, NoProgram, NoSteps
from manygoings.machine import run
from manygoings.papers import holders, is_paper, opened
from manygoings.pieces import Pieces, laid
from manygoings.rows import is_program

A, B, C = [("num", n) for n in range(3)]
B0, B1, B2, G0, G1 = ("box", 0), ("box", 1), ("box", 2), ("go", 0), ("go", 1)
BIG = 10 ** 60
SIZES = (2, 3, 4, 5, 8, 9, 64)
NUMBERS = ("made", "handed", "room", "moved", "ahead", "size", "paper", "counts")


def nums(*numbers):
    return [("num", n) for n in numbers]


def just(pile, goings=(), boxes=(), pegs=()):
    """A picture."""
    return (list(pile), list(pegs), list(goings), list(boxes))


def state(house):
    if isinstance(house, Pieces):
        return [house.picture()] + [getattr(house, word)() for word in NUMBERS]
    return [house.picture()]


class Runs(unittest.TestCase):
    def laid(self, picture=EMPTY):
        yield copied(picture)
        for size in SIZES:
            yield laid(size, picture)

    def check(self, picture, rows, steps, told, behind, at=0):
        """A run of a house laid from a picture tells this, and leaves that picture."""
        for house in self.laid(picture):
            with self.subTest(house=type(house), rows=rows, at=at):
                self.assertEqual(run(house, rows, steps, at), told)
                self.assertEqual(house.picture(), behind)

    def row(self, pile, row, behind, told=(), goings=(), boxes=()):
        """The row does its work, and the one behind it is next. Behind is a pile, or a picture."""
        if isinstance(behind, list):
            behind = just(behind)
        rows = [row] + [("jump", 5)] * 4
        self.check(just(pile, goings, boxes), rows, 1, ("more", 1, list(told), 1), behind)

    def lacks(self, picture, row, many=1):
        """The row lacks what it needs, so nothing is done."""
        rows = [row] + [("sweep",)] * (many - 1)
        for steps in (0, 1, 1000):
            for house in self.laid(picture):
                before = state(house)
                with self.subTest(house=type(house), row=row, steps=steps, picture=picture):
                    self.assertEqual(run(house, rows, steps), ("stuck", 0, [], 0))
                    self.assertEqual(state(house), before)


class Sums(Runs):
    def test_put(self):
        self.row([], ("put", 5), nums(5))
        self.row(nums(1), ("put", -BIG), nums(1, -BIG))

    def test_add_and_less(self):
        self.row(nums(9, 5, 3), ("add",), nums(9, 8))
        self.row(nums(9, 5, 3), ("less",), nums(9, 2))
        self.row(nums(3, 5), ("less",), nums(-2))
        self.row(nums(-3, -5), ("add",), nums(-8))
        self.row(nums(-3, -5), ("less",), nums(2))
        self.row(nums(BIG, BIG), ("add",), nums(2 * BIG))
        self.row(nums(7, 7), ("less",), nums(0))
        self.row([("at", 4)] + nums(1, 2), ("add",), [("at", 4), ("num", 3)])

    def test_add_and_less_lack_nums(self):
        boxes = [(0, A)]
        for word in ("add", "less"):
            for pile in ([], nums(1), [("at", 1), A], [A, ("at", 1)], [("at", 1), ("at", 2)], [A, A, ("at", 0)]):
                self.lacks(just(pile), (word,))
            for pile in ([B0, A], [A, B0], [A, A, B0], [A, B0, A]):
                self.lacks(just(pile, boxes=boxes), (word,))
            self.lacks(just([A, G0], [(0, 0, [])]), (word,))

    def test_numbers_may_grow(self):
        rows = [("pick", 0), ("add",), ("jump", 0)]
        for house in self.laid(just(nums(10 ** 60))):
            for _ in range(4):
                self.assertEqual(run(house, rows, 999), ("more", 0, [], 999))
            self.assertEqual(house.pile(), nums(10 ** 60 * 2 ** (4 * 333)))


class Piles(Runs):
    def test_pick_drop_and_lift(self):
        pile = nums(0, 1, 2, 3, 4)
        for k in range(5):
            self.row(pile, ("pick", k), pile + [pile[4 - k]])
            self.row(pile, ("drop", k), pile[:4 - k] + pile[5 - k:])
            self.row(pile, ("lift", k), pile[:4 - k] + pile[5 - k:] + [pile[4 - k]])
        self.row([("at", 7)], ("pick", 0), [("at", 7)] * 2)

    def test_high_piles(self):
        pile = nums(*range(400))
        for k in (0, 1, 3, 200, 398, 399):
            self.row(pile, ("pick", k), pile + [pile[399 - k]])
            self.row(pile, ("drop", k), pile[:399 - k] + pile[400 - k:])
            self.row(pile, ("lift", k), pile[:399 - k] + pile[400 - k:] + [pile[399 - k]])

    def test_what_is_not_there(self):
        for word in ("pick", "drop", "lift"):
            for many in range(4):
                for k in (many, many + 1, BIG):
                    self.lacks(just(nums(*range(many))), (word, k))

    def test_a_thing_that_is_dropped_last_is_let_go(self):
        self.row([B0, A], ("drop", 1), [A], boxes=[(0, B)])
        self.row([B0, A], ("drop", 0), just([B0], boxes=[(0, B)]), boxes=[(0, B)])
        self.row([B0, A, B0], ("drop", 2), just([A, B0], boxes=[(0, B)]), boxes=[(0, B)])
        self.row([G0, A], ("drop", 1), [A], goings=[(0, 3, [B0])], boxes=[(0, B)])

    def test_a_thing_that_is_lifted_is_not_let_go(self):
        self.row([B0, A], ("lift", 1), just([A, B0], boxes=[(0, B)]), boxes=[(0, B)])
        self.row([A, B0], ("lift", 0), just([A, B0], boxes=[(0, B)]), boxes=[(0, B)])

    def test_tell(self):
        self.row(nums(1, 2), ("tell",), nums(1), told=nums(2))
        self.row([("at", 7)], ("tell",), [], told=[("at", 7)])
        self.row([B0], ("tell",), [], told=[B0], boxes=[(0, G0)], goings=[(0, 0, [])])
        self.lacks(EMPTY, ("tell",))


class Boxes(Runs):
    def test_box(self):
        self.row(nums(1, 2), ("box",), just(nums(1) + [B0], boxes=[(0, ("num", 2))]))
        self.row([B1], ("box",), just([B0], boxes=[(0, B1), (1, A)]), boxes=[(1, A)])
        self.row([G0], ("box",), just([B0], [(0, 1, [])], [(0, G0)]), goings=[(0, 1, [])])
        self.lacks(EMPTY, ("box",))

    def test_get(self):
        self.row([B, B0], ("get",), nums(1, 2), boxes=[(0, C)])
        self.row([B0, B0], ("get",), just([B0, C], boxes=[(0, C)]), boxes=[(0, C)])

    def test_what_a_box_alone_held_is_not_let_go_by_a_get(self):
        self.row([B1], ("get",), just([B0], boxes=[(0, A)]), boxes=[(0, A), (1, B0)])
        self.row([B0], ("get",), just([G1], [(1, 7, [B2])], [(2, A)]), goings=[(1, 7, [B2])],
                 boxes=[(0, G1), (2, A)])
        self.row([B0], ("get",), just([B0], boxes=[(0, B0)]), boxes=[(0, B0)])

    def test_get_lacks_a_box(self):
        for pile in ([], nums(1), [("at", 0)]):
            self.lacks(just(pile), ("get",))
        self.lacks(just([B0, A], boxes=[(0, A)]), ("get",))
        self.lacks(just([B0, G0], [(0, 0, [])], [(0, A)]), ("get",))

    def test_set(self):
        self.row([A, B0, B0, C], ("set",), just([A, B0], boxes=[(0, C)]), boxes=[(0, B)])
        self.row([B1, B1, B0], ("set",), just([B1], boxes=[(0, A), (1, B0)]), boxes=[(0, A), (1, C)])
        self.row([B0, B0, ("at", 9)], ("set",), just([B0], boxes=[(0, ("at", 9))]), boxes=[(0, C)])

    def test_set_lets_go_behind_the_row(self):
        self.row([B, B0, C], ("set",), [B], boxes=[(0, A)])
        self.row([B0, B1], ("set",), [], boxes=[(0, A), (1, A)])
        self.row([B0, B0], ("set",), just([], boxes=[(0, B0)]), boxes=[(0, A)])
        self.row([B0, B0, C], ("set",), just([B0], boxes=[(0, C)]), boxes=[(0, B1), (1, B2), (2, A)])
        # What the box had comes on top of it again: it is held all along.
        self.row([B0, B0, B1], ("set",), just([B0], boxes=[(0, B1), (1, A)]), boxes=[(0, B1), (1, A)])
        # The worth holds the box that is filled with it, and nothing else holds any of the two.
        self.row([B0, B1], ("set",), just([], boxes=[(0, B1), (1, B0)]), boxes=[(0, A), (1, B0)])
        self.row([B0, G0], ("set",), just([], [(0, 2, [B0])], [(0, G0)]), goings=[(0, 2, [B0])], boxes=[(0, A)])

    def test_set_lacks_a_box_or_a_worth(self):
        for pile in ([], nums(1), nums(1, 2), [("at", 0), A]):
            self.lacks(just(pile), ("set",))
        for pile in ([B0], [A, B0], [B0, A, A], [B0, A, B0]):
            self.lacks(just(pile, boxes=[(0, A)]), ("set",))
        self.lacks(just([G0, A], [(0, 0, [])]), ("set",))

    def test_sweep(self):
        self.row([B2], ("sweep",), just([B2], boxes=[(2, B)]), boxes=[(0, B1), (1, B0), (2, B)])
        self.row([], ("sweep",), [])
        for house in self.laid(BRIM):
            other = copied(BRIM)
            other.sweep()
            self.assertEqual(run(house, [("sweep",)], 1), ("done", 1, [], 1))
            self.assertEqual(house.picture(), other.picture())


class Leads(Runs):
    def test_jump_and_if(self):
        rows = [("jump", 2), ("tell",), ("put", 4)]
        self.check(EMPTY, rows, 1, ("more", 2, [], 1), EMPTY)
        self.check(EMPTY, rows, 9, ("done", 3, [], 2), just(nums(4)))
        self.check(EMPTY, [("jump", 0)], 7, ("more", 0, [], 7), EMPTY)
        self.check(EMPTY, [("jump", 1)], 7, ("done", 1, [], 1), EMPTY)
        for n, to in ((0, 1), (1, 3), (-1, 3), (BIG, 3), (-BIG, 3)):
            rows = [("if", 3), ("jump", 4), ("jump", 4), ("jump", 4)]
            self.check(just(nums(7, n)), rows, 1, ("more", to, [], 1), just(nums(7)))
        self.check(just(nums(1)), [("if", 1)], 1, ("done", 1, [], 1), EMPTY)
        self.check(just(nums(0)), [("if", 0)], 1, ("done", 1, [], 1), EMPTY)
        self.check(just(nums(5, 0)), [("if", 0)], 2, ("done", 1, [], 1), just(nums(5)))

    def test_if_lacks_a_num(self):
        for pile in ([], [("at", 0)], [A, ("at", 3)]):
            self.lacks(just(pile), ("if", 1))
        self.lacks(just([A, B0], boxes=[(0, A)]), ("if", 0))

    def test_call(self):
        rows = [("jump", 2), ("tell",), ("call", 4), ("tell",), ("jump", 5)]
        self.check(EMPTY, rows, 2, ("more", 4, [], 2), just([("at", 3)]))
        # Behind the last row, the number is that of the row behind it, too.
        self.check(EMPTY, [("call", 1)], 1, ("done", 1, [], 1), just([("at", 1)]))
        self.check(EMPTY, [("call", 0)], 3, ("more", 0, [], 3), just([("at", 1)] * 3))

    def test_back(self):
        pile = [("at", 2), ("num", 8), ("at", 0), ("at", 3)]
        rows = [("back", 0), ("jump", 3), ("jump", 3)]
        for k, to, rest in ((0, 3, pile[:3]), (1, 0, pile[:2] + pile[3:]), (3, 2, pile[1:])):
            rows[0] = ("back", k)
            told = run(copied(just(pile)), rows, 1)
            self.assertEqual(told[1:], (to, [], 1))
            self.check(just(pile), rows, 1, told, just(rest))
        self.check(just([("at", 1)]), [("back", 0)], 5, ("done", 1, [], 1), EMPTY)

    def test_back_lacks_an_at(self):
        self.lacks(EMPTY, ("back", 0))
        for pile, k in ((nums(0), 0), ([("at", 0)], 1), ([("at", 0)], BIG), ([("at", 0), A], 0),
                        ([A, ("at", 0)], 1)):
            self.lacks(just(pile), ("back", k))
        self.lacks(just([("at", 0), B0], boxes=[(0, A)]), ("back", 0))
        self.lacks(just([("at", 0), G0], [(0, 0, [])]), ("back", 0))

    def test_back_lacks_an_at_that_leads_into_the_program(self):
        for many in (1, 2, 5):
            for far in (many + 1, many + 2, BIG):
                self.lacks(just([("at", far)]), ("back", 0), many)
            rows = [("back", 0)] + [("sweep",)] * (many - 1)
            self.check(just([("at", many)]), rows, 1, ("done", many, [], 1), EMPTY)

    def test_keep(self):
        self.row(nums(1), ("keep", 5), just(nums(1) + [G0], [(0, 5, nums(1))]))
        self.row([], ("keep", 0), just([G0], [(0, 0, [])]))
        self.row([G0], ("keep", 3), just([G0, G1], [(0, 9, []), (1, 3, [G0])]), goings=[(0, 9, [])])

    def test_go(self):
        goings = [(0, 2, nums(7, 8))]
        rows = [("go", 0), ("jump", 3), ("jump", 3)]
        self.check(just([A, G0], goings), rows, 1, ("more", 2, [], 1), just(nums(7, 8)))
        rows[0] = ("go", 2)
        self.check(just([A, G0, B, C], goings), rows, 1, ("more", 2, [], 1), just(nums(7, 8, 1, 2)))
        rows[0] = ("go", 1)
        self.check(just([A, G0, G0], goings), rows, 1, ("more", 2, [], 1), just(nums(7, 8) + [G0], goings))
        # The going-on leads behind the last row; its pile is without worths.
        self.check(just([G0], [(0, 1, [])]), [("go", 0)], 1, ("done", 1, [], 1), EMPTY)

    def test_go_lets_go_behind_the_row(self):
        goings, boxes = [(0, 1, [B0]), (1, 4, [B1])], [(0, A), (1, B), (2, C)]
        rows = [("go", 1), ("jump", 1)]
        self.check(just([G1, G0, B2], goings, boxes), rows, 1, ("more", 1, [], 1),
                   just([B0, B2], [], [(0, A), (2, C)]))
        rows = [("go", 2), ("jump", 1)]
        self.check(just([B2, G0, G1, G0], goings, boxes), rows, 1, ("more", 1, [], 1),
                   just([B0, G1, G0], goings, boxes[:2]))

    def test_go_lacks_a_going(self):
        self.lacks(EMPTY, ("go", 0))
        for pile, k in ((nums(0), 0), ([("at", 0)], 0), ([A], 1), ([A], BIG)):
            self.lacks(just(pile), ("go", k))
        goings = [(0, 0, [])]
        for pile, k in (([G0], 1), ([G0, A], 0), ([A, G0], 1), ([G0, A], 2)):
            self.lacks(just(pile, goings), ("go", k))
        self.lacks(just([B0], boxes=[(0, A)]), ("go", 0))

    def test_go_lacks_a_place_in_the_program(self):
        for many in (1, 2, 5):
            for far in (many + 1, many + 2, BIG):
                self.lacks(just([G0], [(0, far, [A])]), ("go", 0), many)
            rows = [("go", 0)] + [("sweep",)] * (many - 1)
            self.check(just([G0], [(0, many, [A])]), rows, 1, ("done", many, [], 1), just([A]))

    def test_numbers_are_used_again_behind_a_row(self):
        rows = [("put", 1), ("box",), ("tell",), ("put", 2), ("box",), ("tell",), ("keep", 0), ("tell",),
                ("keep", 0), ("tell",)]
        self.check(EMPTY, rows, 99, ("done", 10, [B0, B0, G0, G0], 10), EMPTY)


class Whole(Runs):
    def test_counting_down(self):
        self.check(just(nums(5)), DOWN, 1000, ("done", 9, nums(5, 4, 3, 2, 1, 0), 41), EMPTY)

    def test_a_sum(self):
        self.check(just(nums(100)), SUM, 1000, ("done", 11, nums(5050), 803), EMPTY)

    def test_a_going_that_is_gone_on_with_many_times(self):
        self.check(EMPTY, THRICE, 1000, ("done", 20, nums(3, 2, 1), 49),
                   just([B0, G0, ("num", 77)], [(0, 3, [B0])], [(0, A)]))

    def test_rings_and_sweeps(self):
        self.check(EMPTY, RINGS, 44, ("more", 0, [B1, B2, B2, B2], 44),
                   just([], [(1, 0, [B1, B1])], [(1, G1)]))

    def test_told_things_in_their_order(self):
        rows = [("put", 1), ("tell",), ("put", 2), ("box",), ("tell",), ("call", 6), ("tell",), ("keep", 0),
                ("tell",)]
        self.check(EMPTY, rows, 99, ("done", 9, [("num", 1), B0, ("at", 6), G0], 9), EMPTY)


class Told(Runs):
    """Point 34."""

    def test_no_rows(self):
        for steps in (0, 1, 1000):
            self.check(BRIM, [], steps, ("done", 0, [], 0), BRIM)
            self.check(BRIM, [], steps, ("done", 0, [], 0), BRIM, 0)

    def test_no_steps(self):
        rows = [("put", 1), ("add",)]
        for picture, hows in ((EMPTY, ("more", "stuck", "done")), (just(nums(1, 2)), ("more", "more", "done"))):
            for at, how in enumerate(hows):
                self.check(picture, rows, 0, (how, at, [], 0), picture, at)

    def test_behind_the_last_row_it_is_done(self):
        for steps in (0, 1, 1000):
            self.check(BRIM, EACH_ROW, steps, ("done", 18, [], 0), BRIM, 18)

    def test_done_goes_ahead_of_more(self):
        rows = [("put", 1), ("put", 2), ("tell",)]
        for steps, how in ((0, "more"), (1, "more"), (2, "more"), (3, "done"), (4, "done"), (1000, "done")):
            many = min(steps, 3)
            self.check(EMPTY, rows, steps, (how, many, nums(2)[:steps - 2] if steps > 2 else [], many),
                       just(nums(1, 2)[:many] if many < 3 else nums(1)))

    def test_stuck_goes_ahead_of_more(self):
        rows = [("put", 1), ("tell",), ("tell",), ("put", 2)]
        for steps, told in ((0, ("more", 0, [], 0)), (1, ("more", 1, [], 1)), (2, ("stuck", 2, nums(1), 2)),
                            (3, ("stuck", 2, nums(1), 2)), (1000, ("stuck", 2, nums(1), 2))):
            self.check(EMPTY, rows, steps, told, just(nums(1)[:told[1] % 2]))

    def test_the_house_is_left_as_the_run_left_it(self):
        rows = [("put", 1), ("keep", 0), ("lift", 1), ("box",), ("add",)]
        self.check(EMPTY, rows, 1000, ("stuck", 4, [], 4), just([G0, B0], [(0, 0, nums(1))], [(0, ("num", 1))]))

    def test_from_any_row(self):
        rows = [("put", n) for n in range(6)]
        for at in range(7):
            self.check(EMPTY, rows, 3, ("more" if at < 3 else "done", min(at + 3, 6), [], min(3, 6 - at)),
                       just(nums(*range(at, min(at + 3, 6)))), at)

    def test_a_thousand_steps(self):
        rows = [("put", 1), ("jump", 0)]
        self.check(EMPTY, rows, 1000, ("more", 0, [], 1000), just(nums(1) * 500))
        rows = [("put", 1)] * 60 + [("jump", 0)]
        self.check(EMPTY, rows, 1000, ("more", 24, [], 1000), just(nums(1) * 984))
        rows = [("put", n) for n in range(1000)]
        self.check(EMPTY, rows, 1000, ("done", 1000, [], 1000), just(nums(*range(1000))))

    def test_a_thousand_sweeps_and_keeps(self):
        for house in self.laid():
            for _ in range(2):
                self.assertEqual(run(house, [("keep", 0), ("sweep",), ("jump", 0)], 1000)[3], 1000)
            self.assertEqual(len(house.goings()), 668)

    def test_the_kinds(self):
        for house in self.laid(just(nums(1, 2, 3))):
            told = run(house, [("tell",), ("tell",)], 9)
            self.assertEqual([type(one) for one in told], [str, int, list, int])
            self.assertIs(type(told), tuple)


class Refused(Runs):
    def refused(self, error, rows, *rest):
        for house in self.laid(BRIM):
            before = state(house)
            with self.subTest(house=type(house), rest=rest):
                with self.assertRaises(error) as met:
                    run(house, rows, *rest)
                self.assertIs(type(met.exception), error)
                self.assertEqual(state(house), before)

    def test_no_program(self):
        for odd in odd_things() + [[()], [("put",)], [("jump", 2)], [("sweep",), ("pick", -1)], (("sweep",),)]:
            if type(odd) is list and len(odd) == 0:
                continue
            self.refused(NoProgram, odd, 1)
            self.refused(NoProgram, odd, -1, -1)
            self.refused(NoProgram, odd, 1001, 99)

    def test_no_steps(self):
        for rows in ([], [("sweep",)], EACH_ROW):
            for steps in (-1, -2, -BIG, 1001, 1002, BIG):
                self.refused(NoSteps, rows, steps)
                self.refused(NoSteps, rows, steps, 0)
                self.refused(NoSteps, rows, steps, -1)
                self.refused(NoSteps, rows, steps, len(rows) + 1)

    def test_no_place(self):
        for rows in ([], [("sweep",)], EACH_ROW):
            for at in (-1, -2, -BIG, len(rows) + 1, len(rows) + 2, BIG):
                self.refused(NoPlace, rows, 0, at)
                self.refused(NoPlace, rows, 1, at)
                self.refused(NoPlace, rows, 1000, at)


class Lists(Runs):
    def test_the_rows_stay(self):
        rows = copy.deepcopy(THRICE)
        for house in self.laid():
            run(house, rows, 1000)
            self.assertEqual(rows, THRICE)

    def test_told_lists_are_the_askers_own(self):
        for house in self.laid(just(nums(1, 2, 3))):
            rows = [("tell",), ("tell",)]
            first = run(house, rows, 1)[2]
            other = run(house, rows, 1)[2]
            self.assertIsNot(first, other)
            first.append(B)
            rows.clear()
            self.assertEqual((other, house.pile()), (nums(2), nums(1)))
            none, again = run(house, rows, 1)[2], run(house, rows, 1)[2]
            self.assertIsNot(none, again)
            none.append(A)
            self.assertEqual((again, run(house, rows, 1)[2]), ([], []))

    def test_a_picture_told_ahead_of_a_run_stays(self):
        for house in self.laid(BRIM):
            told = house.picture()
            run(house, [("drop", 0), ("drop", 0), ("drop", 0), ("drop", 0), ("sweep",)], 5)
            self.assertEqual(told, fresh(BRIM))
            self.assertNotEqual(house.picture(), told)


class Parts(Runs):
    """Point 35."""

    def in_parts(self, rng, house, rows, steps, between):
        """One run of all the steps, done as runs of some of them with something done between."""
        how, at, told, done = run(house, rows, 0)
        while how == "more" and done < steps:
            between(house)
            how, at, more, many = run(house, rows, rng.randint(0, min(9, steps - done)), at)
            told.extend(more)
            done += many
        return (how, at, told, done)

    def test_runs_of_some_steps(self):
        for picture, rows in ((just(nums(9)), DOWN), (just(nums(20)), SUM), (EMPTY, THRICE), (EMPTY, RINGS)):
            for steps in (0, 1, 30, 100, 1000):
                rng = random.Random(steps)
                told = run(copied(picture), rows, steps)
                for house in self.laid(picture):
                    self.assertEqual(self.in_parts(rng, house, rows, steps, lambda one: None), told)

    def test_tidyings_between_change_nothing(self):
        for seed in range(30):
            rng = random.Random(seed)
            plain = PlainHouse()
            rows = fitted_program(rng, plain)
            told = run(copied(EMPTY), rows, 150)
            for size in SIZES:
                house = Pieces(size)
                self.assertEqual(self.in_parts(rng, house, rows, 150, lambda one: one.tidy()), told)

    def test_sweeps_between_change_nothing_but_numbers(self):
        def bare(told):
            how, at, worths, done = told
            return (how, at, [word if word in ("box", "go") else (word, n) for word, n in worths], done)

        fewer = 0
        programs = [RINGS] + [fitted_program(random.Random(seed), PlainHouse()) for seed in range(40)]
        programs[0] = [row if row != ("sweep",) else ("jump", 8) for row in RINGS]
        for rows in programs:
            once = copied(EMPTY)
            told = run(once, rows, 150)
            for house in self.laid():
                again = self.in_parts(random.Random(1), house, rows, 150, lambda one: one.sweep())
                self.assertEqual(bare(again), bare(told))
                fewer += len(house.boxes()) < len(once.boxes())
        self.assertGreater(fewer, 0)

    def test_a_run_on_pieces_tells_what_one_on_copies_tells(self):
        for seed in range(40):
            rng = random.Random(seed)
            picture = random_picture(rng, 4, 6)
            plain = plain_laid(2, picture)
            whole = PlainHouse()
            whole.worths, whole.on_pegs, whole.inside = plain.whole(), plain.on_pegs, plain.inside
            whole.kept = {g: (place, list(pile)) for g, place, pile in picture[2]}
            houses = list(self.laid(picture))
            for _ in range(3):
                rows = fitted_program(rng, whole) if rng.random() < 0.8 else random_program(rng)
                at = rng.choice((0, 0, rng.randint(0, len(rows))))
                steps = rng.choice((0, 1, 7, 60, 90))
                told = plain_run(whole, rows, steps, at)
                for house in houses:
                    self.assertEqual(run(house, rows, steps, at), told)
                    self.assertEqual(house.picture(), whole.picture())

    def test_the_paper_behind_a_run_is_right(self):
        for seed in range(40):
            rng = random.Random(seed)
            rows = fitted_program(rng, PlainHouse())
            for size in SIZES:
                house = Pieces(size)
                at = 0
                for _ in range(3):
                    at = run(house, rows, rng.randint(0, 60), at)[1]
                    paper, picture = house.paper(), house.picture()
                    self.assertIs(is_paper(size, paper), True)
                    self.assertEqual(house.counts(), holders(paper))
                    self.assertEqual([opened(paper, k) for k in range(len(paper[1]))],
                                     [picture[0]] + [pile for _, _, pile in picture[2]])
                    self.assertEqual(house.height(), len(picture[0]))
                    self.assertEqual(house.made() - house.handed(), house.room())


if __name__ == "__main__":
    unittest.main()
