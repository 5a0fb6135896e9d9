"""Points 2, 3 and 15 to 18: ways, reached and lost things, shut sets, rings, the swept picture."""

import copy
import itertools
import random
import unittest

from odd_things import odd_things
from some_pictures import (BRIM, BRIM_LOST, EMPTY, chain, fresh, lists_of, plain_reached, plain_roots,
                           plain_things, random_picture, small_pictures, unlike, worths_of_thing)

from manygoings.errors import NoThing
from manygoings.pictures import is_picture
from manygoings.rings import is_shut, is_way, lost, lost_ring, reached, swept, way_to

ONE, B0, B1, G0, G1 = ("num", 1), ("box", 0), ("box", 1), ("go", 0), ("go", 1)


def pictures(seed, many):
    rng = random.Random(seed)
    return [random_picture(rng) for _ in range(many)] + list(small_pictures())[::5]


def held_by(picture, thing):
    return unlike(worths_of_thing(picture, thing))


def plain_is_way(picture, way):
    """Point 15, as it says."""
    if not way or way[0] not in plain_roots(picture):
        return False
    return all(way[at] in held_by(picture, way[at - 1]) for at in range(1, len(way)))


def plain_is_shut(picture, some):
    """Point 17, as it says."""
    for thing in some:
        if thing not in plain_things(picture) or thing in plain_roots(picture):
            return False
        for holder in plain_things(picture):
            if thing in held_by(picture, holder) and holder not in some:
                return False
    return True


def fewest(picture, thing):
    """How many things the shortest ways have that end with a thing; None where none does."""
    ends = set(plain_roots(picture))
    for many in range(1, len(plain_things(picture)) + 1):
        if thing in ends:
            return many
        ends = {held for one in ends for held in held_by(picture, one)}
    return None


class Reached(unittest.TestCase):
    def test_by_hand(self):
        self.assertEqual(lost(BRIM), BRIM_LOST)
        self.assertEqual(reached(BRIM), [("box", 2), ("box", 4), ("go", 0), ("go", 5)])
        self.assertEqual((lost(EMPTY), reached(EMPTY)), ([], []))

    def test_order_is_that_of_things(self):
        picture = ([], [("a", ("go", 3)), ("b", ("box", 7))], [(1, 0, []), (3, 0, [("box", 9), G1])],
                   [(7, ONE), (9, ("box", 10)), (10, ONE), (11, ("box", 12)), (12, ("box", 11))])
        self.assertIs(is_picture(picture), True)
        self.assertEqual(reached(picture), [("box", 7), ("box", 9), ("box", 10), G1, ("go", 3)])
        self.assertEqual(lost(picture), [("box", 11), ("box", 12)])

    def test_as_the_document_says(self):
        for picture in pictures(15, 500):
            found = plain_reached(picture)
            self.assertEqual(reached(picture), found)
            self.assertEqual(lost(picture), [one for one in plain_things(picture) if one not in found])

    def test_a_peg_alone_is_enough(self):
        self.assertEqual(lost(([], [("a", B0)], [], [(0, B1), (1, ONE)])), [])
        self.assertEqual(lost(([], [("a", ONE)], [], [(0, B1), (1, B0)])), [B0, B1])


class Ways(unittest.TestCase):
    def test_ways_by_hand(self):
        b2, b4, g5 = ("box", 2), ("box", 4), ("go", 5)
        for way in ([b2], [G0], [g5], [G0, b2], [G0, b4], [G0, b4, g5]):
            self.assertIs(is_way(BRIM, way), True, way)
        for way in ([], [b4], [b4, g5], [G0, g5], [b2, G0], [G0, G0], [G0, b4, b2], [G0, b4, g5, g5],
                    [("go", 6)], [("go", 6), ("go", 6)], [("go", 7), ("box", 8)], [ONE],
                    [("num", 1), b2], [G0, ("num", 0)], [G0, ("num", 0), b2], [("box", 0)], [G0, ("box", 3)],
                    [G0, ("at", 3), ("go", 1)], [b2, ("num", -3)]):
            self.assertIs(is_way(BRIM, way), False, way)

    def test_a_thing_may_stand_in_a_way_twice(self):
        picture = ([B0], [], [(0, 0, [B0, G0])], [(0, G0)])
        for way in ([B0, G0, B0, G0, G0, G0, B0], [B0] + [G0, B0] * 200):
            self.assertIs(is_way(picture, way), True)
        self.assertIs(is_way(picture, [B0, B0]), False)
        self.assertIs(is_way(picture, [B0] + [G0, B0] * 200 + [B0]), False)
        self.assertIs(is_way(picture, [G0, B0]), False)

    def test_rows_of_worths_as_the_document_says(self):
        rng = random.Random(16)
        for picture in pictures(17, 100):
            some = plain_things(picture) + [("num", 0), ("at", 1), ("box", 99)]
            for many in (0, 1, 2, 3):
                for way in itertools.islice(itertools.product(some, repeat=many), 150):
                    self.assertIs(is_way(picture, list(way)), plain_is_way(picture, way))
            for _ in range(30):
                way = [rng.choice(plain_roots(picture) or some)]
                while rng.random() < 0.8:
                    way.append(rng.choice(held_by(picture, way[-1]) or some))
                self.assertIs(is_way(picture, way), plain_is_way(picture, way))

    def test_shortest_ways_by_hand(self):
        self.assertEqual(way_to(BRIM, ("box", 2)), [("box", 2)])
        self.assertEqual(way_to(BRIM, ("box", 4)), [G0, ("box", 4)])
        self.assertEqual(way_to(BRIM, ("go", 5)), [("go", 5)])
        for thing in BRIM_LOST:
            self.assertIsNone(way_to(BRIM, thing))

    def test_shortest_ways_as_the_document_says(self):
        for picture in pictures(18, 500):
            for thing in plain_things(picture):
                way = way_to(picture, thing)
                many = fewest(picture, thing)
                if many is None:
                    self.assertIsNone(way)
                else:
                    self.assertIs(plain_is_way(picture, way), True)
                    self.assertEqual((way[-1], len(way)), (thing, many))

    def test_refused(self):
        for worth in (ONE, ("num", 0), ("at", 0), ("at", 3), ("box", 0), ("box", 10 ** 60), ("go", 2)):
            with self.subTest(worth=worth), self.assertRaises(NoThing) as met:
                way_to(BRIM, worth)
            self.assertIs(type(met.exception), NoThing)
        for odd in odd_things() + [("box", True), B0]:
            with self.assertRaises(NoThing):
                way_to(EMPTY, odd)

    def test_a_long_chain(self):
        picture = chain(700)
        way = way_to(picture, ("go", 699))
        self.assertEqual(len(way), 1400)
        self.assertIs(is_way(picture, way), True)
        self.assertEqual(lost(picture), [])
        ring = ([], [], picture[2][:-1], picture[3][:-1] + [(699, B0)])
        self.assertIs(is_picture(ring), True)
        self.assertEqual(len(lost(ring)), 1399)
        self.assertEqual(len(lost_ring(ring)), 1399)
        self.assertIs(is_shut(ring, lost(ring)), True)


class Shut(unittest.TestCase):
    def test_by_hand(self):
        g6, b9, g7, b8 = ("go", 6), ("box", 9), ("go", 7), ("box", 8)
        for some in ([], [g6], [g6, b9], [b9, g6, g6], [g7, b8], BRIM_LOST, BRIM_LOST * 2, BRIM_LOST[::-1]):
            self.assertIs(is_shut(BRIM, some), True, some)
        for some in ([b9], [g7], [b8], [g6, b9, ("box", 4)], [("box", 2)], [("go", 5)], [ONE],
                     [g6, ("num", 1)], [g6, ("box", 0)], [g6, ("at", 0)], BRIM_LOST + [G0], [G0, ("box", 4)]):
            self.assertIs(is_shut(BRIM, some), False, some)
        self.assertIs(is_shut(EMPTY, []), True)
        self.assertIs(is_shut(EMPTY, [B0]), False)

    def test_what_holds_itself_alone_is_shut(self):
        picture = ([], [], [(0, 0, [G0])], [(0, B0)])
        for some in ([B0], [G0], [B0, G0]):
            self.assertIs(is_shut(picture, some), True)

    def test_what_a_peg_or_the_pile_has_is_not_shut(self):
        self.assertIs(is_shut(([B0], [], [], [(0, B0)]), [B0]), False)
        self.assertIs(is_shut(([], [("a", B0)], [], [(0, B0)]), [B0]), False)

    def test_every_set_as_the_document_says(self):
        for picture in pictures(19, 60):
            some = (plain_things(picture) + [("num", 0), ("box", 99)])[:8]
            gone = lost(picture)
            self.assertIs(is_shut(picture, gone), True)
            for many in range(len(some) + 1):
                for chosen in itertools.combinations(some, many):
                    answer = plain_is_shut(picture, chosen)
                    self.assertIs(is_shut(picture, list(chosen)), answer)
                    self.assertIs(is_shut(picture, list(chosen + chosen[:2])), answer)
                    if answer:
                        self.assertLessEqual(set(chosen), set(gone))


class Rings(unittest.TestCase):
    def check(self, picture):
        ring = lost_ring(picture)
        if lost(picture) == []:
            self.assertIsNone(ring)
            return None
        self.assertIs(type(ring), list)
        self.assertGreaterEqual(len(ring), 1)
        self.assertEqual(len(ring), len(set(ring)))
        for holder, thing in zip(ring, ring[1:] + ring[:1]):
            self.assertIn(holder, lost(picture))
            self.assertIn(thing, held_by(picture, holder))
        return ring

    def test_by_hand(self):
        self.assertIn(self.check(BRIM), ([("go", 6)], [("go", 7), ("box", 8)], [("box", 8), ("go", 7)]))
        self.assertIsNone(lost_ring(EMPTY))
        self.assertIsNone(lost_ring(([B0], [], [], [(0, B0)])))
        self.assertEqual(self.check(([], [], [], [(0, B0)])), [B0])
        self.assertEqual(self.check(([], [], [(0, 0, [G0])], [])), [G0])
        self.assertIn(self.check(([], [], [(0, 0, [B0, B1])], [(0, B1), (1, G0)])),
                      ([G0, B0, B1], [B0, B1, G0], [B1, G0, B0], [G0, B1], [B1, G0]))

    def test_a_tail_is_no_part_of_the_ring(self):
        picture = ([], [], [], [(0, B1), (1, B0)])
        self.assertEqual(set(self.check(picture)), {B0, B1})
        # The boxes 0 and 1 are lost and held, but only 2 and 3 are a ring.
        picture = ([], [], [(0, 0, [("box", 3), B0])], [(0, B1), (1, ONE), (2, G0), (3, ("box", 2))])
        self.assertEqual(set(self.check(picture)), {G0, ("box", 2), ("box", 3)})

    def test_random_pictures(self):
        many = sum(self.check(picture) is not None for picture in pictures(20, 500))
        self.assertGreater(many, 50)


class Swept(unittest.TestCase):
    def test_by_hand(self):
        self.assertEqual(swept(BRIM), (BRIM[0], BRIM[1], BRIM[2][:2], BRIM[3][:2]))
        self.assertEqual(swept(EMPTY), EMPTY)
        self.assertEqual(swept(([], [], [(0, 0, [G0, B0])], [(0, B0)])), EMPTY)

    def test_random_pictures(self):
        for picture in pictures(21, 500):
            gone = lost(picture)
            pile, pegs, goings, boxes = picture
            told = swept(picture)
            self.assertEqual(told, (pile, pegs, [row for row in goings if ("go", row[0]) not in gone],
                                    [row for row in boxes if ("box", row[0]) not in gone]))
            self.assertIs(is_picture(told), True)
            self.assertEqual((lost(told), lost_ring(told)), ([], None))
            self.assertEqual(swept(told), told)


class Kept(unittest.TestCase):
    def test_nothing_is_changed_or_kept(self):
        picture = fresh(BRIM)
        way = [G0, ("box", 4)]
        some = [("go", 6), ("go", 6)]
        for tell in (reached, lost, lost_ring, lambda one: way_to(one, ("box", 4))):
            told = tell(picture)
            self.assertFalse([one for one in lists_of(picture) if one is told])
            again = tell(picture)
            told.append(ONE)
            self.assertEqual(tell(picture), again)
        is_way(picture, way)
        is_shut(picture, some)
        self.assertEqual((way, some), ([G0, ("box", 4)], [("go", 6), ("go", 6)]))
        self.assertEqual(picture, copy.deepcopy(BRIM))

    def test_the_lists_of_a_swept_picture_are_new(self):
        for picture in (fresh(BRIM), fresh(EMPTY), swept(BRIM)):
            before = fresh(picture)
            told = swept(picture)
            every = lists_of(picture) + lists_of(told) + lists_of(swept(picture))
            self.assertEqual(len({id(one) for one in every}), len(every))
            for one in lists_of(told):
                one.append(ONE)
            self.assertEqual(picture, before)


if __name__ == "__main__":
    unittest.main()
