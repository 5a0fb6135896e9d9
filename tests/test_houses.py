"""Points 2, 3 and 19 to 22: the deeds of a house, on one of copies and on one of pieces alike."""

import copy
import random
import unittest

from odd_things import odd_things
from some_pictures import (BRIM, BRIM_LOST, EMPTY, chain, fresh, lists_of, plain_reached, plain_things,
                           random_picture)

from manygoings.copies import Copies, copied
from manygoings.errors import NoName, NoPicture, NoPlace, NoSize, NoThing, NoWorth
from manygoings.pictures import is_picture
from manygoings.pieces import Pieces, laid
from manygoings.worths import is_worth

A, B, C, D, E = [("num", n) for n in range(5)]
B0, B1, G0, G1 = ("box", 0), ("box", 1), ("go", 0), ("go", 1)
BIG = 10 ** 60
NO_WORTHS = [odd for odd in odd_things()] + [("num",), ("num", True), ("box", -1), ("at", -1), ("word", 0)]
NUMBERS = ("made", "handed", "room", "moved", "ahead", "size", "paper", "counts")


def state(house):
    """All that a house tells of itself."""
    if isinstance(house, Pieces):
        return [house.picture()] + [getattr(house, word)() for word in NUMBERS]
    return [house.picture()]


class Houses(unittest.TestCase):
    """Each test is run on a house of copies and on houses of pieces."""

    def houses(self):
        yield Copies()
        for size in (2, 3, 4, 64):
            yield Pieces(size)

    def laid(self, picture):
        yield copied(picture)
        for size in (2, 3, 4, 64):
            yield laid(size, picture)

    def refused(self, house, error, word, *rest):
        before = state(house)
        with self.subTest(house=type(house), word=word), self.assertRaises(error) as met:
            getattr(house, word)(*rest)
        self.assertIs(type(met.exception), error)
        self.assertEqual(state(house), before)


class Piles(Houses):
    def test_a_new_house(self):
        for house in self.houses():
            self.assertEqual(house.picture(), EMPTY)
            self.assertEqual((house.height(), house.pile()), (0, []))
            self.assertEqual((house.pegs(), house.goings(), house.boxes()), ([], [], []))
            self.assertEqual(house.sweep(), [])

    def test_put_take_look_and_lift(self):
        for house in self.houses():
            for worth in (A, B, ("at", 7), ("num", -BIG), C):
                self.assertIsNone(house.put(worth))
            self.assertEqual(house.pile(), [A, B, ("at", 7), ("num", -BIG), C])
            self.assertEqual(house.height(), 5)
            self.assertEqual([house.look(k) for k in range(5)], house.pile()[::-1])
            self.assertEqual(house.look(), C)
            self.assertEqual(house.take(1), ("num", -BIG))
            self.assertEqual(house.pile(), [A, B, ("at", 7), C])
            self.assertEqual(house.take(3), A)
            self.assertEqual(house.take(), C)
            self.assertEqual(house.pile(), [B, ("at", 7)])
            self.assertIsNone(house.lift(1))
            self.assertEqual(house.pile(), [("at", 7), B])
            self.assertIsNone(house.lift(0))
            self.assertEqual(house.pile(), [("at", 7), B])
            self.assertEqual((house.take(0), house.take(0), house.pile()), (B, ("at", 7), []))

    def test_places_beneath_the_top(self):
        for house in self.houses():
            for many in range(4):
                for word in ("take", "look", "lift"):
                    for k in (-1, -2, -BIG, many, many + 1, BIG):
                        self.refused(house, NoPlace, word, k)
                if many == 0:
                    self.refused(house, NoPlace, "take")
                    self.refused(house, NoPlace, "look")
                    self.refused(house, NoPlace, "box")
                house.put(("num", many))

    def test_what_is_no_worth(self):
        for house in self.houses():
            house.put(A)
            house.box()
            for odd in NO_WORTHS:
                self.assertIs(is_worth(odd), False)
                self.refused(house, NoWorth, "put", odd)
                self.refused(house, NoWorth, "fill", 0, odd)
                self.refused(house, NoWorth, "fill", 5, odd)
                self.refused(house, NoWorth, "peg", "a", odd)

    def test_things_that_are_not_there(self):
        for house in self.houses():
            house.put(A)
            house.box()
            for thing in (B1, G0, ("box", BIG), ("go", BIG)):
                self.refused(house, NoThing, "put", thing)
                self.refused(house, NoThing, "fill", 0, thing)
                self.refused(house, NoThing, "peg", "a", thing)
            house.put(("at", BIG))
            house.put(B0)
            self.assertEqual(house.pile(), [B0, ("at", BIG), B0])


class Goings(Houses):
    def test_keep_and_go(self):
        for house in self.houses():
            self.assertEqual(house.keep(4), 0)
            self.assertEqual(house.pile(), [G0])
            house.put(A)
            self.assertEqual(house.keep(BIG), 1)
            self.assertEqual(house.pile(), [G0, A, G1])
            self.assertEqual((house.pile_of(0), house.pile_of(1)), ([], [G0, A]))
            self.assertEqual((house.place_of(0), house.place_of(1)), (4, BIG))
            house.put(B)
            self.assertEqual(house.go(1, 2), BIG)
            self.assertEqual(house.pile(), [G0, A, G1, B])
            self.assertEqual(house.go(1), BIG)
            self.assertEqual(house.pile(), [G0, A])
            self.assertEqual(house.goings(), [0])
            self.assertEqual(house.go(0, 2), 4)
            self.assertEqual((house.pile(), house.goings()), ([G0, A], [0]))
            self.assertEqual(house.go(0, 0), 4)
            self.assertEqual((house.pile(), house.goings()), ([], []))

    def test_a_kept_pile_never_changes(self):
        for house in self.houses():
            for n in range(9):
                house.put(("num", n))
            house.keep(0)
            for _ in range(8):
                house.take(1)
            house.lift(1)
            house.put(G0)
            self.assertEqual(house.pile_of(0), [("num", n) for n in range(9)])
            house.go(0, 1)
            for k in range(9, 0, -1):
                self.assertEqual(house.take(k), ("num", 9 - k))
                self.assertEqual(house.pile_of(0), [("num", n) for n in range(9)])
            self.assertEqual(house.pile(), [G0])

    def test_going_on_many_times(self):
        for house in self.houses():
            for n in range(5):
                house.put(("num", n))
            house.keep(2)
            house.peg("back", G0)
            for n in range(5, 30):
                house.put(("num", n))
                self.assertEqual(house.go(0, 1), 2)
                self.assertEqual(house.pile(), [("num", k) for k in (0, 1, 2, 3, 4, n)])
                for _ in range(n % 7):
                    if house.height():
                        house.take()
            self.assertEqual(house.pile_of(0), [("num", k) for k in range(5)])

    def test_going_on_with_the_whole_pile(self):
        for house in self.houses():
            house.put(A)
            house.keep(1)
            house.put(B)
            house.go(0, 3)
            self.assertEqual(house.pile(), [A, A, G0, B])

    def test_refused(self):
        for house in self.houses():
            for place in (-1, -2, -BIG):
                self.refused(house, NoPlace, "keep", place)
            for g in (0, 1, -1, BIG):
                self.refused(house, NoThing, "go", g)
                self.refused(house, NoThing, "go", g, -1)
                self.refused(house, NoThing, "go", g, 5)
                self.refused(house, NoThing, "pile_of", g)
                self.refused(house, NoThing, "place_of", g)
            house.put(A)
            house.keep(0)
            for many in (-1, -BIG, 3, 4, BIG):
                self.refused(house, NoPlace, "go", 0, many)
            self.assertEqual(house.go(0, 2), 0)

    def test_a_box_is_no_going(self):
        for house in self.houses():
            house.put(A)
            house.box()
            self.refused(house, NoThing, "go", 0)
            self.refused(house, NoThing, "place_of", 0)
            house.take()
            house.keep(0)
            self.refused(house, NoThing, "held", 0)
            self.refused(house, NoThing, "fill", 0, A)


class Boxes(Houses):
    def test_box_held_and_fill(self):
        for house in self.houses():
            house.put(A)
            house.put(B)
            self.assertEqual(house.box(), 0)
            self.assertEqual((house.pile(), house.boxes(), house.held(0)), ([A, B0], [0], B))
            self.assertEqual(house.box(), 1)
            self.assertEqual((house.pile(), house.held(1), house.held(0)), ([A, B1], B0, B))
            self.assertIsNone(house.fill(0, C))
            self.assertEqual(house.held(0), C)
            self.assertIsNone(house.fill(1, ("at", 3)))
            self.assertEqual((house.held(1), house.boxes()), (("at", 3), [1]))

    def test_refused(self):
        for house in self.houses():
            self.refused(house, NoPlace, "box")
            for b in (0, 1, -1, BIG):
                self.refused(house, NoThing, "held", b)
                self.refused(house, NoThing, "fill", b, A)
                self.refused(house, NoThing, "fill", b, B0)
            house.put(A)
            house.box()
            for odd in odd_things():
                if type(odd) is not int or odd != 0:
                    self.refused(house, NoThing, "held", odd)
                    self.refused(house, NoThing, "place_of", odd)
            self.refused(house, NoThing, "held", 1)
            self.refused(house, NoThing, "fill", 1, B0)
            self.refused(house, NoWorth, "fill", 1, ("box", -1))

    def test_a_box_may_hold_itself(self):
        for house in self.houses():
            house.put(A)
            house.box()
            house.fill(0, B0)
            self.assertEqual(house.take(), B0)
            self.assertEqual((house.boxes(), house.held(0)), ([0], B0))
            self.assertEqual(house.sweep(), [B0])
            self.assertEqual(house.boxes(), [])


class Pegs(Houses):
    def test_pegs(self):
        for house in self.houses():
            for name in ("b", "a", "zzzzzzzz", "ab"):
                self.assertIsNone(house.peg(name, A))
            self.assertEqual(house.pegs(), ["a", "ab", "b", "zzzzzzzz"])
            self.assertIsNone(house.peg("b", B))
            self.assertEqual((house.pegged("a"), house.pegged("b")), (A, B))
            self.assertIsNone(house.unpeg("a"))
            self.assertEqual(house.pegs(), ["ab", "b", "zzzzzzzz"])
            self.refused(house, NoName, "pegged", "a")
            self.refused(house, NoName, "unpeg", "a")

    def test_refused(self):
        odd_names = odd_things() + ["", "abcdefghi", "A", "a1", "a b", "a\n", "\u00e4", b"a", ("a",)]
        odd_names = [odd for odd in odd_names if type(odd) is not str or odd != "nums"]  # a name
        for house in self.houses():
            house.peg("a", A)
            for name in odd_names:
                self.refused(house, NoName, "peg", name, A)
                self.refused(house, NoName, "peg", name, None)
                self.refused(house, NoName, "peg", name, B0)
                self.refused(house, NoName, "pegged", name)
                self.refused(house, NoName, "unpeg", name)
            for name in ("b", "nums", "aa"):
                self.refused(house, NoName, "pegged", name)
                self.refused(house, NoName, "unpeg", name)
            self.refused(house, NoWorth, "peg", "a", ("box", -1))
            self.refused(house, NoThing, "peg", "a", B0)


class LetGo(Houses):
    def test_what_is_only_told_holds_nothing(self):
        for house in self.houses():
            house.put(A)
            house.box()
            self.assertEqual(house.take(), B0)
            self.assertEqual(house.boxes(), [])
            self.refused(house, NoThing, "put", B0)
            self.refused(house, NoThing, "held", 0)

    def test_each_way_to_be_held(self):
        for house in self.houses():
            house.put(A)
            house.box()
            house.peg("a", B0)
            house.take()
            self.assertEqual(house.boxes(), [0])
            house.put(B0)
            house.unpeg("a")
            self.assertEqual(house.boxes(), [0])
            house.box()
            self.assertEqual((house.pile(), house.boxes()), ([B1], [0, 1]))
            house.keep(0)
            house.take(1)
            self.assertEqual((house.pile(), house.boxes(), house.goings()), ([G0], [0, 1], [0]))
            house.take()
            self.assertEqual(house.picture(), EMPTY)

    def test_each_deed_lets_go(self):
        for house in self.houses():
            house.put(A)
            house.box()
            house.peg("a", B0)
            house.peg("b", B0)
            house.take()
            house.peg("a", A)
            self.assertEqual(house.boxes(), [0])
            house.peg("b", A)
            self.assertEqual(house.boxes(), [])
            house.put(A)
            house.box()
            house.put(B)
            house.box()
            house.fill(1, B0)
            house.take(1)
            self.assertEqual(house.boxes(), [0, 1])
            house.fill(1, C)
            self.assertEqual(house.boxes(), [1])
            house.keep(0)
            house.put(D)
            house.box()
            self.assertEqual(house.boxes(), [0, 1])
            house.go(0)
            self.assertEqual((house.pile(), house.boxes(), house.goings()), ([B1], [1], []))

    def test_within_a_deed_nothing_is_let_go(self):
        for house in self.houses():
            house.put(A)
            house.box()
            house.put(B)
            house.lift(1)
            self.assertEqual((house.pile(), house.held(0)), ([B, B0], A))
            house.lift(0)
            house.put(C)
            self.assertEqual(house.take(2), B)
            self.assertEqual((house.pile(), house.held(0)), ([B0, C], A))
            house.take()
            house.box()
            self.assertEqual((house.pile(), house.held(1), house.held(0)), ([B1], B0, A))
            house.peg("a", B1)
            house.peg("a", B1)
            house.fill(1, B0)
            self.assertEqual((house.held(1), house.held(0)), (B0, A))
            house.take()
            house.peg("b", B1)
            house.unpeg("a")
            self.assertEqual((house.pegged("b"), house.boxes()), (B1, [0, 1]))

    def test_worths_that_come_along_stay_held(self):
        for house in self.houses():
            house.keep(0)
            house.put(A)
            house.box()
            house.keep(1)
            house.put(B0)
            house.go(0, 2)
            self.assertEqual((house.pile(), house.boxes(), house.goings()), ([G1, B0], [0], [0, 1]))
            house.go(0, 1)
            self.assertEqual((house.pile(), house.boxes(), house.goings()), ([B0], [0], []))

    def test_the_going_gone_on_with_may_be_let_go(self):
        for house in self.houses():
            house.put(A)
            house.box()
            house.keep(3)
            house.take(1)
            self.assertEqual(house.boxes(), [0])
            self.assertEqual(house.go(0), 3)
            self.assertEqual((house.pile(), house.boxes(), house.goings()), ([B0], [0], []))

    def test_least_numbers(self):
        for house in self.houses():
            for n in range(5):
                house.put(A)
                self.assertEqual(house.box(), n)
                self.assertEqual(house.keep(0), n)
            # The going-on that is kept nth has the boxes up to the nth and the goings-on ahead of it.
            house.peg("a", ("go", 1))
            for _ in range(10):
                house.take()
            self.assertEqual((house.boxes(), house.goings()), ([0, 1], [0, 1]))
            house.put(B)
            self.assertEqual((house.box(), house.keep(0)), (2, 2))
            house.put(("go", 1))
            house.unpeg("a")
            house.put(C)
            self.assertEqual(house.box(), 3)
            house.take(3)
            self.assertEqual((house.boxes(), house.goings()), ([0, 1, 2, 3], [0, 1, 2]))

    def test_numbers_are_used_again(self):
        for house in self.houses():
            for _ in range(3):
                house.put(A)
                house.box()
            house.take(1)
            self.assertEqual(house.boxes(), [0, 2])
            house.put(B)
            self.assertEqual((house.box(), house.held(1)), (1, B))
            house.take(2)
            self.assertEqual(house.boxes(), [1, 2])
            house.put(C)
            self.assertEqual((house.box(), house.boxes()), (0, [0, 1, 2]))

    def test_a_chain_goes_as_a_whole(self):
        for house in self.houses():
            house.put(A)
            for _ in range(400):
                house.box()
            self.assertEqual(len(house.boxes()), 400)
            self.assertEqual(house.take(), ("box", 399))
            self.assertEqual(house.picture(), EMPTY)

    def test_a_chain_of_boxes_and_goings_on(self):
        for house in self.laid(chain(500)):
            self.assertEqual(len(house.boxes()) + len(house.goings()), 1000)
            self.assertEqual(house.sweep(), [])
            house.put(("go", 250))
            house.take(1)
            self.assertEqual((house.boxes(), house.goings()),
                             (list(range(251, 500)), list(range(250, 500))))
            house.take()
            self.assertEqual(house.picture(), EMPTY)


class Sweeps(Houses):
    def test_rings_stay_until_a_sweep(self):
        for house in self.houses():
            house.put(A)
            house.box()
            house.put(B0)
            house.box()
            house.fill(0, B1)
            house.put(("num", 9))
            house.box()
            house.fill(1, B0)
            house.take(1)
            house.take(1)
            self.assertEqual((house.pile(), house.boxes()), ([("box", 2)], [0, 1, 2]))
            self.assertEqual(house.sweep(), [B0, B1])
            self.assertEqual((house.pile(), house.boxes()), ([("box", 2)], [2]))
            self.assertEqual(house.sweep(), [])
            house.put(C)
            self.assertEqual(house.box(), 0)

    def test_a_sweep_of_the_brim(self):
        for house in self.laid(BRIM):
            self.assertEqual(house.sweep(), BRIM_LOST)
            self.assertEqual(house.picture(), (BRIM[0], BRIM[1], BRIM[2][:2], BRIM[3][:2]))
            self.assertEqual(house.sweep(), [])

    def test_random_sweeps(self):
        rng = random.Random(20)
        for _ in range(150):
            picture = random_picture(rng)
            stay = plain_reached(picture)
            for house in self.laid(picture):
                self.assertEqual(house.sweep(), [one for one in plain_things(picture) if one not in stay])
                told = house.picture()
                self.assertEqual(told, picture[:2] + ([row for row in picture[2] if ("go", row[0]) in stay],
                                                      [row for row in picture[3] if ("box", row[0]) in stay]))
                for name in house.pegs():
                    house.unpeg(name)
                while house.height():
                    house.take()
                house.sweep()
                self.assertEqual(house.picture(), EMPTY)


class Laid(Houses):
    def test_the_picture_is_that_one(self):
        rng = random.Random(22)
        for picture in [EMPTY, BRIM, chain(200)] + [random_picture(rng, 5, 12) for _ in range(150)]:
            for house in self.laid(picture):
                self.assertEqual(house.picture(), picture)
                self.assertEqual(house.pile(), picture[0])
                self.assertEqual(house.height(), len(picture[0]))
                self.assertEqual(house.pegs(), [name for name, _ in picture[1]])
                self.assertEqual(house.goings(), [row[0] for row in picture[2]])
                self.assertEqual(house.boxes(), [b for b, _ in picture[3]])
                for name, worth in picture[1]:
                    self.assertEqual(house.pegged(name), worth)
                for g, place, pile in picture[2]:
                    self.assertEqual((house.place_of(g), house.pile_of(g)), (place, pile))
                for b, worth in picture[3]:
                    self.assertEqual(house.held(b), worth)

    def test_no_picture(self):
        for odd in odd_things() + [([], [], [], [(0, A)]), ([B0], [], [], []), ([], [], []), [[], [], [], []]]:
            self.assertIs(is_picture(odd), False)
            for tell in (lambda one: copied(one), lambda one: laid(2, one), lambda one: laid(64, one)):
                with self.assertRaises(NoPicture) as met:
                    tell(odd)
                self.assertIs(type(met.exception), NoPicture)

    def test_no_size(self):
        for size in [1, 0, -1, -2, 65, 66, BIG, -BIG] + odd_things():
            for tell in (lambda: Pieces(size), lambda: laid(size, EMPTY), lambda: laid(size, None),
                         lambda: laid(size, ([], [], [], [(0, A)]))):
                with self.assertRaises(NoSize) as met:
                    tell()
                self.assertIs(type(met.exception), NoSize)

    def test_kinds(self):
        self.assertIs(type(copied(BRIM)), Copies)
        self.assertIs(type(laid(2, BRIM)), Pieces)
        self.assertTrue(issubclass(Pieces, Copies))
        self.assertEqual((Pieces.__bases__, Copies.__bases__), ((Copies,), (object,)))


class Kept(Houses):
    def test_a_picture_that_is_handed_in_is_not_kept(self):
        for tell in (copied, lambda one: laid(2, one), lambda one: laid(64, one)):
            picture = fresh(BRIM)
            house = tell(picture)
            for one in lists_of(picture):
                one.append(E)
                one.reverse()
            self.assertEqual(house.picture(), BRIM)
            picture = fresh(BRIM)
            house = tell(picture)
            house.take(3)
            house.go(0, 1)
            house.put(E)
            house.fill(4, E)
            house.peg("new", E)
            house.unpeg("b")
            house.sweep()
            self.assertEqual(picture, BRIM)

    def test_lists_that_are_told_are_the_askers_own(self):
        tells = (lambda house: [house.pile()], lambda house: [house.pegs()], lambda house: [house.goings()],
                 lambda house: [house.boxes()], lambda house: [house.pile_of(0)],
                 lambda house: [house.pile_of(5)], lambda house: lists_of(house.picture()))
        for house in self.laid(BRIM):
            for tell in tells:
                before = copy.deepcopy(tell(house))
                rows = tell(house) + tell(house)
                self.assertEqual(len({id(row) for row in rows}), len(rows))
                for row in rows:
                    row.append(A)
                    row.reverse()
                self.assertEqual(tell(house), before)
            told = house.sweep()
            told.append(A)
            self.assertEqual(house.sweep(), [])
            self.assertIs(is_picture(house.picture()), True)

    def test_told_lists_stay_when_the_house_goes_on(self):
        for house in self.laid(BRIM):
            told = (house.pile(), house.pegs(), house.goings(), house.boxes(), house.pile_of(0),
                    house.picture())
            before = copy.deepcopy(told)
            house.put(A)
            house.keep(0)
            house.put(B)
            house.box()
            house.peg("zz", C)
            house.go(0)
            for _ in range(house.height()):
                house.take()
            house.sweep()
            self.assertEqual(told, before)

    def test_houses_share_nothing(self):
        for first, other in zip(self.laid(BRIM), self.laid(BRIM)):
            first.put(A)
            first.unpeg("a")
            first.sweep()
            self.assertEqual(other.picture(), BRIM)
        for first, other in zip(self.houses(), self.houses()):
            first.put(A)
            first.box()
            self.assertEqual(other.picture(), EMPTY)


if __name__ == "__main__":
    unittest.main()
