"""Points 2, 3, 13 and 14: what is a picture, its things and roots, and what a thing holds."""

import copy
import random
import unittest

from odd_things import Sour, odd_things
from some_pictures import (BRIM, EMPTY, chain, fresh, is_whole, lists_of, plain_roots, plain_things,
                           random_picture, small_pictures, unlike, worths_of_thing)

from manygoings.errors import NoThing
from manygoings.pictures import holds, is_picture, roots, things

ONE, B0, B1, G0 = ("num", 1), ("box", 0), ("box", 1), ("go", 0)


class IsPicture(unittest.TestCase):
    def yes(self, *picture):
        with self.subTest(picture=picture):
            self.assertIs(is_picture(picture), True)

    def no(self, *picture):
        with self.subTest(picture=picture):
            self.assertIs(is_picture(picture), False)

    def test_pictures(self):
        self.yes([], [], [], [])
        self.yes(*BRIM)
        self.yes([ONE, ("at", 0), ("num", -10 ** 60)], [], [], [])
        self.yes([B0], [], [], [(0, ONE)])
        self.yes([G0], [], [(0, 0, [])], [])
        self.yes([("go", 10 ** 60)], [], [(10 ** 60, 10 ** 60, [ONE])], [])
        self.yes([("box", 10 ** 60)], [], [], [(10 ** 60, ONE)])
        self.yes(*chain(500))

    def test_every_small_picture_and_no_other(self):
        many = 0
        for picture in small_pictures():
            many += 1
            self.assertIs(is_picture(picture), True, picture)
            for other in (picture[:3] + (picture[3][:1],), picture[:3] + (picture[3][1:],),
                          (picture[0], [], [], picture[3]), picture[:3] + ([],)):
                self.assertIs(is_picture(other), is_whole(other), other)
        self.assertGreater(many, 100)

    def test_random_pictures(self):
        rng = random.Random(13)
        for _ in range(500):
            picture = random_picture(rng)
            self.assertIs(is_picture(picture), True, picture)
            thing = ("box", 99)
            self.assertIs(is_picture((picture[0] + [thing],) + picture[1:]), False)
            self.assertIs(is_picture(picture[:3] + (picture[3] + [(99, ONE)],)), False)
            self.assertIs(is_picture(picture[:2] + (picture[2] + [(99, 0, [])],) + picture[3:]), False)
            for at in range(len(picture[0])):
                less = (picture[0][:at] + picture[0][at + 1:],) + picture[1:]
                self.assertIs(is_picture(less), is_whole(less))

    def test_what_holds_a_thing(self):
        self.yes([B0], [], [], [(0, ONE)])
        self.yes([], [("a", B0)], [], [(0, ONE)])
        self.yes([], [], [], [(0, B0)])
        self.yes([], [], [], [(0, B1), (1, B0)])
        self.yes([], [], [(0, 0, [G0])], [])
        self.yes([], [], [(0, 0, [B0, G0])], [(0, ONE)])
        self.yes([], [], [(0, 0, [B0])], [(0, G0)])
        self.no([], [], [], [(0, ONE)])
        self.no([], [], [(0, 0, [])], [])
        self.no([B0], [], [], [(0, ONE), (1, ONE)])
        self.no([B0], [], [(0, 0, [B0])], [(0, ONE)])
        self.no([G0], [], [(0, 0, [])], [(0, G0)])
        self.no([B0], [], [], [(0, ONE), (1, B0)])

    def test_things_that_are_not_in_the_picture(self):
        self.no([B0], [], [], [])
        self.no([G0], [], [], [])
        self.no([G0], [], [], [(0, ONE)])
        self.no([B0], [], [(0, 0, [])], [])
        self.no([], [("a", B0)], [], [])
        self.no([], [("a", G0)], [], [])
        self.no([B0], [], [], [(0, B1)])
        self.no([B0], [], [], [(0, G0)])
        self.no([G0], [], [(0, 0, [B0])], [])
        self.no([G0], [], [(0, 0, [("go", 1)])], [])
        self.no([B1], [], [], [(0, ONE)])

    def test_rows_that_do_not_rise(self):
        self.yes([], [("a", ONE), ("aa", ONE), ("ab", ONE), ("b", ONE)], [], [])
        self.no([], [("b", ONE), ("a", ONE)], [], [])
        self.no([], [("aa", ONE), ("a", ONE)], [], [])
        self.no([], [("a", ONE), ("a", ONE)], [], [])
        self.no([], [("a", ONE), ("a", ("num", 2))], [], [])
        self.no([], [("a", ONE), ("c", ONE), ("b", ONE)], [], [])
        self.yes([B0, B1], [], [], [(0, ONE), (1, ONE)])
        self.no([B0, B1], [], [], [(1, ONE), (0, ONE)])
        self.no([B0], [], [], [(0, ONE), (0, ONE)])
        self.no([B0], [], [], [(0, ONE), (0, ("num", 2))])
        self.yes([G0, ("go", 1)], [], [(0, 9, []), (1, 3, [])], [])
        self.no([G0, ("go", 1)], [], [(1, 3, []), (0, 9, [])], [])
        self.no([G0], [], [(0, 0, []), (0, 0, [])], [])
        self.no([G0], [], [(0, 0, []), (0, 1, [ONE])], [])
        self.no([G0, ("go", 1), ("go", 2)], [], [(0, 0, []), (2, 0, []), (1, 0, [])], [])

    def test_names(self):
        for name in ("a", "z", "abcdefgh", "zzzzzzzz", "none", "pile"):
            self.yes([], [(name, ONE)], [], [])
        for name in ("", "abcdefghi", "A", "aB", "a1", "1", "a b", " a", "a ", "a\n", "-", "_", "a_",
                     "\u00e4", "\u00df", "`", "{", "a" * 400, b"a", 1, None, ("a",), ["a"], Sour()):
            self.no([], [(name, ONE)], [], [])

    def test_numbers_and_places(self):
        for odd in (-1, -10 ** 60, True, False, 1.0, "0", None, (0,), [0], Sour()):
            self.no([B0], [], [], [(odd, ONE)])
            self.no([G0], [], [(odd, 0, [])], [])
            self.no([G0], [], [(0, odd, [])], [])
        self.no([("box", -1)], [], [], [(-1, ONE)])
        self.no([("box", True)], [], [], [(1, ONE)])
        self.no([B1], [], [], [(True, ONE)])

    def test_worths_that_are_none(self):
        for odd in odd_things() + [("num",), ("num", True), ("at", -1), ("word", 1), ["num", 1]]:
            self.no([odd], [], [], [])
            self.no([ONE, odd], [], [], [])
            self.no([], [("a", odd)], [], [])
            self.no([B0], [], [], [(0, odd)])
            self.no([G0], [], [(0, 0, [odd])], [])

    def test_rows_of_other_forms(self):
        for odd in odd_things() + [("a", ONE, ONE), ("a",), ["a", ONE], (ONE, "a")]:
            self.no([], [odd], [], [])
        for odd in odd_things() + [(0, 0), (0, 0, [], []), [0, 0, []], (0, [], 0)]:
            self.no([G0], [], [odd], [])
            self.no([G0], [], [(0, 0, []), odd], [])
        for odd in odd_things() + [(0,), (0, ONE, ONE), [0, ONE], (ONE, 0)]:
            self.no([B0], [], [], [odd])
            self.no([B0], [], [], [(0, ONE), odd])

    def test_parts_of_other_forms(self):
        for odd in odd_things():
            if type(odd) is list and odd == []:
                continue
            self.no(odd, [], [], [])
            self.no([], odd, [], [])
            self.no([], [], odd, [])
            self.no([], [], [], odd)
            self.no([G0], [], [(0, 0, odd)], [])
        self.no((ONE,), [], [], [])

    def test_things_of_other_forms(self):
        for odd in odd_things() + [[[], [], [], []], ([], [], []), ([], [], [], [], []), ([],),
                                   {0: [], 1: [], 2: [], 3: []}, [BRIM], (BRIM,), "none"]:
            with self.subTest(odd=type(odd)):
                self.assertIs(is_picture(odd), False)


class Holds(unittest.TestCase):
    def test_by_hand(self):
        self.assertEqual(things(BRIM), [("box", 2), ("box", 4), ("box", 8), ("box", 9),
                                        ("go", 0), ("go", 5), ("go", 6), ("go", 7)])
        self.assertEqual(roots(BRIM), [("box", 2), ("go", 0), ("go", 5)])
        self.assertEqual(holds(BRIM, ("box", 2)), [])
        self.assertEqual(holds(BRIM, ("box", 4)), [("go", 5)])
        self.assertEqual(holds(BRIM, ("box", 9)), [("box", 4)])
        self.assertEqual(holds(BRIM, ("go", 0)), [("box", 4), ("box", 2)])
        self.assertEqual(holds(BRIM, ("go", 5)), [])
        self.assertEqual(holds(BRIM, ("go", 6)), [("go", 6), ("box", 9)])
        self.assertEqual((things(EMPTY), roots(EMPTY)), ([], []))

    def test_the_order_of_the_roots(self):
        picture = ([("go", 1), B1, ("go", 1), G0], [("a", B0), ("b", B1)],
                   [(0, 0, []), (1, 0, [])], [(0, ONE), (1, ONE)])
        self.assertIs(is_picture(picture), True)
        self.assertEqual(roots(picture), [("go", 1), B1, G0, B0])

    def test_as_the_document_says(self):
        rng = random.Random(14)
        for picture in [random_picture(rng) for _ in range(500)] + list(small_pictures())[::7]:
            self.assertEqual(things(picture), plain_things(picture))
            self.assertEqual(roots(picture), plain_roots(picture))
            for thing in things(picture):
                self.assertEqual(holds(picture, thing), unlike(worths_of_thing(picture, thing)))

    def test_refused(self):
        for worth in (ONE, ("num", 0), ("at", 2), ("box", 0), ("box", 3), ("box", 10 ** 60), ("go", 1),
                      ("go", 2), ("go", 4), ("go", 9)):
            with self.subTest(worth=worth), self.assertRaises(NoThing) as met:
                holds(BRIM, worth)
            self.assertIs(type(met.exception), NoThing)
        for odd in odd_things() + [("box", True), B0]:
            with self.assertRaises(NoThing):
                holds(EMPTY, odd)

    def test_a_long_chain(self):
        picture = chain(500)
        self.assertEqual(len(things(picture)), 1000)
        self.assertEqual(holds(picture, ("go", 300)), [("box", 301)])

    def test_nothing_is_changed_or_kept(self):
        picture = fresh(BRIM)
        for tell in (things, roots, lambda one: holds(one, ("go", 0)), lambda one: holds(one, ("box", 2))):
            told = tell(picture)
            self.assertFalse([one for one in lists_of(picture) if one is told])
            again = tell(picture)
            self.assertIsNot(told, again)
            told.append(ONE)
            self.assertEqual(tell(picture), again)
        is_picture(picture)
        self.assertEqual(picture, copy.deepcopy(BRIM))


if __name__ == "__main__":
    unittest.main()
