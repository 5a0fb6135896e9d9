"""Points 2, 3, 5 and 6: whole numbers, worths, things, and how they are written."""

import unittest

from odd_things import Sour, odd_things

from manygoings.errors import NoText
from manygoings.worths import (is_number, is_worth, read_pile, read_worth, show_pile, show_worth,
                               things_of)

SIXTY = "1" + "0" * 58 + "7"
WRITTEN = [
    (("num", 0), "0"), (("num", 7), "7"), (("num", -7), "-7"), (("num", 10), "10"),
    (("num", -100), "-100"), (("num", int(SIXTY)), SIXTY), (("num", -int(SIXTY)), "-" + SIXTY),
    (("at", 0), "@0"), (("at", 12), "@12"), (("at", int(SIXTY)), "@" + SIXTY),
    (("box", 0), "b0"), (("box", 305), "b305"), (("box", int(SIXTY)), "b" + SIXTY),
    (("go", 0), "g0"), (("go", 90), "g90"), (("go", int(SIXTY)), "g" + SIXTY),
]
WRITE_NO_WORTH = [
    "", " ", "-", "--1", "-0", "+0", "+1", "00", "01", "-01", "-00", "007", "1_0", "1_000", "_1",
    " 1", "1 ", "1 2", "1\n", "\n1", "\t1", "1.0", "1e3", "0x1", "0b1", "b", "g", "@", "b-1",
    "g-1", "@-1", "b+1", "@-0", "b01", "g00", "@007", "b 1", "b1 ", " b1", "bb1", "bg1", "@@1",
    "-b1", "B1", "G1", "n1", "box1", "num 1", "none", "1b", "1-", "1,2", "a", "None", "True",
    "\u0661", "\u00b2", "\uff11", "b\u0661", "@\u00b2", "1\u0661", "1\u00a0", "\u22121", "\x00", "1\x00",
    "1" * 61, "-" + "1" * 61, "b" + "1" * 61, "g" + "1" * 61, "@" + "1" * 61, "0" * 60, "0" * 61,
    "1" * 5000, "-" + "9" * 5000, "b" + "1" * 5000, "1;", "1; 2",
]


class Numbers(unittest.TestCase):
    def test_an_int_is_a_number_and_a_truth_is_none(self):
        for n in (0, 1, -1, 10 ** 60, -10 ** 400):
            self.assertIs(is_number(n), True)
        for thing in (True, False, None, 1.0, "1", b"1", [1], (1,), Sour()):
            self.assertIs(is_number(thing), False)


class IsWorth(unittest.TestCase):
    def test_worths(self):
        for worth, _ in WRITTEN:
            with self.subTest(worth=worth):
                self.assertIs(is_worth(worth), True)
        self.assertIs(is_worth(("num", 10 ** 3999)), True)
        self.assertIs(is_worth(("box", 10 ** 3999)), True)

    def test_below_0_only_a_num(self):
        self.assertIs(is_worth(("num", -1)), True)
        for word in ("at", "box", "go"):
            for n in (-1, -2, -10 ** 60):
                with self.subTest(word=word, n=n):
                    self.assertIs(is_worth((word, n)), False)

    def test_a_truth_is_no_number(self):
        for word in ("num", "at", "box", "go"):
            for truth in (True, False):
                with self.subTest(word=word, truth=truth):
                    self.assertIs(is_worth((word, truth)), False)

    def test_other_words(self):
        for word in ("", "Num", "NUM", "num ", "nu", "numb", "peg", "put", "@", "b", "g", "boxes"):
            with self.subTest(word=word):
                self.assertIs(is_worth((word, 1)), False)

    def test_other_forms(self):
        for thing in (("num",), ("num", 1, 2), (1, "num"), ["num", 1], "num 1", "n1", {"num": 1},
                      {"num", 1}, (("num", 1),), ("num", (1,)), [("num", 1)], ("num", ("num", 1)),
                      ("num", "1"), ("num", None), ("num", 1.0), ("num", b"1"), (b"num", 1),
                      (["num"], 1), ({}, 1), (None, 1), (True, 1), (0, 1), (("num",), 1)):
            with self.subTest(thing=thing):
                self.assertIs(is_worth(thing), False)

    def test_anything(self):
        for thing in odd_things():
            self.assertIs(is_worth(thing), False)
            self.assertIs(is_worth((thing, 1)), False)
            self.assertIs(is_worth((thing,)), False)
            self.assertIs(is_worth((thing, thing)), False)
            self.assertIs(is_worth(("num", thing)), type(thing) is int)
            self.assertIs(is_worth(("num", 1, thing)), False)


class ThingsOf(unittest.TestCase):
    def test_things_stand_once_as_they_first_stand(self):
        worths = [("num", 1), ("go", 2), ("box", 2), ("at", 5), ("go", 2), ("box", 1), ("box", 2),
                  ("go", 0), ("num", 2)]
        self.assertEqual(things_of(worths), [("go", 2), ("box", 2), ("box", 1), ("go", 0)])

    def test_no_things(self):
        self.assertEqual(things_of([]), [])
        self.assertEqual(things_of([("num", 1), ("at", 1), ("num", 1)]), [])

    def test_a_box_is_not_a_going_of_its_number(self):
        self.assertEqual(things_of([("box", 3), ("go", 3)]), [("box", 3), ("go", 3)])
        self.assertEqual(things_of([("go", 3), ("box", 3)]), [("go", 3), ("box", 3)])

    def test_many(self):
        worths = [("box", k // 2) for k in range(2000)]
        self.assertEqual(things_of(worths), [("box", k) for k in range(1000)])

    def test_the_list_is_new_and_the_asked_one_stays(self):
        worths = [("box", 1), ("go", 2), ("box", 1)]
        told = things_of(worths)
        self.assertEqual(worths, [("box", 1), ("go", 2), ("box", 1)])
        told.append(("num", 9))
        self.assertEqual(worths, [("box", 1), ("go", 2), ("box", 1)])
        self.assertEqual(things_of(worths), [("box", 1), ("go", 2)])
        all_things = [("box", 1), ("go", 2)]
        told = things_of(all_things)
        self.assertIsNot(told, all_things)
        all_things.clear()
        self.assertEqual(told, [("box", 1), ("go", 2)])


class Written(unittest.TestCase):
    def test_worths_are_written(self):
        for worth, text in WRITTEN:
            with self.subTest(text=text):
                self.assertEqual(show_worth(worth), text)
                self.assertIs(type(show_worth(worth)), str)

    def test_worths_are_read_back(self):
        for worth, text in WRITTEN:
            with self.subTest(text=text):
                told = read_worth(text)
                self.assertEqual(told, worth)
                self.assertIs(is_worth(told), True)

    def test_greater_numbers_are_written_but_not_read(self):
        for word, sign in (("num", ""), ("at", "@"), ("box", "b"), ("go", "g")):
            text = show_worth((word, 10 ** 60))
            self.assertEqual(text, sign + "1" + "0" * 60)
            with self.assertRaises(NoText):
                read_worth(text)
        self.assertEqual(show_worth(("num", -10 ** 3999)), "-1" + "0" * 3999)

    def test_texts_that_write_no_worth(self):
        for text in WRITE_NO_WORTH:
            with self.subTest(text=text):
                with self.assertRaises(NoText):
                    read_worth(text)

    def test_each_sign_alone_and_at_the_end(self):
        for code in range(300):
            sign = chr(code)
            if sign not in "0123456789":
                for text in (sign, "1" + sign, "1" + sign + "1", "b" + sign):
                    with self.assertRaises(NoText):
                        read_worth(text)

    def test_what_is_no_text_writes_nothing(self):
        for thing in odd_things():
            if type(thing) is not str:
                with self.assertRaises(NoText):
                    read_worth(thing)
                with self.assertRaises(NoText):
                    read_pile(thing)
        for thing in (("num", 1), [("num", 1)], ["1"], b"none"):
            with self.assertRaises(NoText):
                read_worth(thing)
            with self.assertRaises(NoText):
                read_pile(thing)


class WrittenPiles(unittest.TestCase):
    def test_piles_are_written_the_lowest_first(self):
        pile = [("num", -3), ("at", 4), ("box", 0), ("go", 12), ("num", 0)]
        self.assertEqual(show_pile(pile), "-3 @4 b0 g12 0")
        self.assertEqual(read_pile("-3 @4 b0 g12 0"), pile)

    def test_none(self):
        self.assertEqual(show_pile([]), "none")
        self.assertEqual(read_pile("none"), [])

    def test_one_worth(self):
        for worth, text in WRITTEN:
            self.assertEqual(show_pile([worth]), text)
            self.assertEqual(read_pile(text), [worth])

    def test_high_piles_are_read_back(self):
        pile = [worth for worth, _ in WRITTEN] * 100
        self.assertEqual(read_pile(show_pile(pile)), pile)

    def test_texts_that_write_no_pile(self):
        for text in WRITE_NO_WORTH:
            # Two worths with a blank between write a pile, and none does.
            if text in ("1 2", "none"):
                continue
            for whole in (text, text + " 1", "1 " + text, "1 " + text + " 2"):
                with self.subTest(text=whole):
                    with self.assertRaises(NoText):
                        read_pile(whole)

    def test_blanks_and_none_amid(self):
        for text in ("1  2", " 1 2", "1 2 ", "1\t2", "1\n2", "1 2\n", "1,2", "1; 2", "none ",
                     " none", "none none", "none 1", "1 none", "None", "NONE", "nonee", "none\n", ""):
            with self.subTest(text=text):
                with self.assertRaises(NoText):
                    read_pile(text)

    def test_a_number_too_long_amid(self):
        with self.assertRaises(NoText):
            read_pile(show_pile([("num", 1), ("box", 10 ** 60), ("num", 2)]))
        self.assertEqual(read_pile("1 " + "9" * 60), [("num", 1), ("num", 10 ** 60 - 1)])

    def test_lists_are_new_and_the_asked_ones_stay(self):
        pile = [("num", 1), ("box", 2)]
        show_pile(pile)
        self.assertEqual(pile, [("num", 1), ("box", 2)])
        told = read_pile("none")
        told.append(("num", 1))
        self.assertEqual(read_pile("none"), [])
        told = read_pile("1 b2")
        told.clear()
        self.assertEqual(read_pile("1 b2"), pile)


if __name__ == "__main__":
    unittest.main()
