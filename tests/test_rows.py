"""Points 2 and 32: what is a program, told of anything."""

import copy
import random
import unittest

from odd_things import odd_things
from some_programs import BARE, DEEP, DOWN, EACH_ROW, LEADING, RINGS, SUM, THRICE, WORDS, random_program

from manygoings.rows import is_program

BIG = 10 ** 60


class IsProgram(unittest.TestCase):
    def yes(self, rows):
        self.assertIs(is_program(rows), True, rows)

    def no(self, rows):
        self.assertIs(is_program(rows), False, rows)

    def test_programs(self):
        for rows in ([], EACH_ROW, DOWN, SUM, THRICE, RINGS, EACH_ROW * 20):
            self.yes(rows)
        rng = random.Random(32)
        for _ in range(200):
            self.yes(random_program(rng))

    def test_put_has_any_number(self):
        for n in (0, 1, -1, BIG, -BIG, 10 ** 3999):
            self.yes([("put", n)])

    def test_deep_words_have_a_number_from_0_on(self):
        for word in DEEP:
            for k in (0, 1, 2, 60, BIG):
                self.yes([(word, k)])
            for k in (-1, -2, -BIG):
                self.no([(word, k)])

    def test_leading_words_have_a_number_up_to_how_many_rows_there_are(self):
        for word in LEADING:
            for many in (1, 2, 5, 60):
                rest = [("tell",)] * (many - 1)
                for r in range(many + 1):
                    for rows in ([(word, r)] + rest, rest + [(word, r)]):
                        self.yes(rows)
                for r in (-1, -2, -many, -BIG, many + 1, many + 2, BIG):
                    for rows in ([(word, r)] + rest, rest + [(word, r)]):
                        self.no(rows)

    def test_a_row_more_makes_a_program_of_it(self):
        rows = [("jump", 2)]
        self.no(rows)
        self.yes(rows + [("sweep",)])

    def test_bare_words_have_no_number(self):
        for word in BARE:
            self.yes([(word,)])
            for rest in ((0,), (1,), (-1,), (None,), (0, 0)):
                self.no([(word,) + rest])

    def test_the_other_words_have_one_number(self):
        for word in DEEP + LEADING + ("put",):
            self.yes([(word, 0)])
            for rest in ((), (0, 0), (0, None), ("0",), (None,), (0.0,), (True,), (False,), ((0,),), ([0],)):
                self.no([(word,) + rest])

    def test_other_words(self):
        for word in ("", "Put", "PUT", "put ", " put", "pu", "putt", "sub", "not", "take", "peg", "look", "num",
                     "at", "none", "done", "put 1", b"put", b"add", None, 0, ("put",), ["put"]):
            self.no([(word, 0)])
            self.no([(word,)])

    def test_one_row_that_is_none_spoils_it(self):
        for bad in (("put",), ("add", 1), ("pick", -1), ("jump", 3), (), "put", None, ["add"], [("add",)], {}):
            for rows in ([bad, ("add",)], [("add",), bad], [bad, bad]):
                self.no(rows)

    def test_other_forms(self):
        for thing in (("add",), [["add"]], [["put", 1]], (("add",),), {("add",): 1}, {("add",)}, "add", "put 1", "",
                      [("add",), []], [()], [(("add",),)], ["add"], [("put", ("num", 1))], iter([]), range(0)):
            self.no(thing)

    def test_anything(self):
        for thing in odd_things():
            if type(thing) is not list or len(thing) > 0:
                self.no(thing)
            self.no([thing])
            self.no([(thing,)])
            self.no([(thing, 0)])
            self.no([(thing, thing)])
            self.no([("put", 0, thing)])
            self.assertIs(is_program([("put", thing)]), type(thing) is int)
            self.assertIs(is_program([("pick", thing)]), type(thing) is int and thing >= 0)
            self.assertIs(is_program([("jump", thing)]), type(thing) is int and 0 <= thing <= 1)

    def test_the_asked_list_stays(self):
        rows = copy.deepcopy(EACH_ROW)
        is_program(rows)
        self.assertEqual(rows, EACH_ROW)

    def test_every_word_is_tried(self):
        self.assertEqual({row[0] for row in EACH_ROW}, set(WORDS))
        self.assertEqual(len(EACH_ROW), 18)


if __name__ == "__main__":
    unittest.main()
