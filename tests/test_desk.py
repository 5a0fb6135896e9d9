"""Points 2, 3, 38 and 39: the desk."""

import random
import unittest

from odd_things import odd_things
from plain_desk import PlainDesk, whole_house
from some_pictures import BRIM, BRIM_LOST, EMPTY, random_picture
from some_programs import DOWN, RINGS, SUM, THRICE, fitted_program, random_program
from some_rows import Rows

from manygoings.desk import Desk
from manygoings.errors import NoName, NoPlace, NoRow, NoSize, NoSteps, NoText, NoThing, PileError
from manygoings.pictures import is_picture
from manygoings.pieces import Pieces, laid
from manygoings.texts import show_picture, show_program
from manygoings.worths import show_pile, show_worth

SIXTY = "1" + "0" * 58 + "7"
LONG = SIXTY + "1"
BRIM_LESS = (BRIM[0], BRIM[1], BRIM[2][:3] + [(7, 1, BRIM[2][3][2])], BRIM[3])
BRIM_TEXT = show_picture(BRIM_LESS)
NO_NUMBERS = ("", "-", "-1", "-0", "+1", "00", "01", "1.0", "1_0", "a", "b1", "@1", "g0", "none", LONG, "1" * 5000,
              "\u0661", "\u00b2", "1\n", "\t1")
NO_WORTHS = ("", "-", "-0", "+1", "00", "01", "-01", "b", "g", "@", "b-1", "@01", "n1", "num", "none", "a", LONG,
             "-" + LONG, "b" + LONG, "@" + LONG, "g" + LONG, "1\n", "\u0661", "b\u0661", "B1", "1.0", "1_0")
NO_NAMES = ("", "A", "a1", "abcdefghi", "a-b", "\u00e4", "a\n", "1", "b1", "_")
BARE = ("box", "sweep", "lost", "pile", "things", "pegs", "height", "room", "moved", "made", "tidy", "show")
OF_NUMBER = ("lift", "take", "look", "held", "keep", "size")
OF_NAME = ("unpeg", "pegged")
OF_WORTH = ("put", "way")


def numbers(desk):
    return [desk.say(word) for word in ("room", "moved", "made", "height")]


class Desks(unittest.TestCase):
    def at(self, picture, size=8):
        desk = Desk()
        desk.say(f"size {size}")
        if picture != EMPTY:
            self.assertEqual(desk.say("load " + show_picture(picture)), "ok")
        return desk

    def says(self, desk, *rows):
        """Rows and their answers by turns."""
        for row, answer in zip(rows[::2], rows[1::2]):
            with self.subTest(row=row):
                told = desk.say(row)
                self.assertEqual(told, answer)
                self.assertIs(type(told), str)

    def refused(self, desk, error, *rows):
        before = (desk.house(), numbers(desk))
        for row in rows:
            with self.subTest(row=row):
                with self.assertRaises(error) as met:
                    desk.say(row)
                self.assertIs(type(met.exception), error)
        self.assertEqual((desk.house(), numbers(desk)), before)


class Deeds(Desks):
    def test_a_new_desk(self):
        desk = Desk()
        self.assertEqual(desk.house(), EMPTY)
        self.says(desk, "show", "pile none", "pile", "none", "pegs", "none", "things", "none", "lost", "none",
                  "sweep", "none", "height", "0", "room", "1", "moved", "0", "made", "1")

    def test_the_first_size_is_8(self):
        desk = Desk()
        for n in range(8):
            self.says(desk, f"put {n}", "ok")
        self.says(desk, "room", "1", "moved", "0", "put 8", "ok", "room", "2", "moved", "4", "made", "2")

    def test_put_take_look_and_lift(self):
        desk = Desk()
        self.says(desk, "put 5", "ok", "put -7", "ok", "put @3", "ok", "put " + SIXTY, "ok", "pile", f"5 -7 @3 {SIXTY}",
                  "height", "4", "look 0", SIXTY, "look 3", "5", "take 1", "@3", "lift 2", "ok", "pile", f"-7 {SIXTY} 5",
                  "lift 0", "ok", "take 0", "5", "take 0", SIXTY, "take 0", "-7", "pile", "none", "put 0", "ok",
                  "put -" + SIXTY, "ok", "pile", f"0 -{SIXTY}")

    def test_boxes(self):
        desk = Desk()
        self.says(desk, "put 5", "ok", "box", "b0", "held 0", "5", "put b0", "ok", "box", "b1", "held 1", "b0",
                  "fill 0 @9", "ok", "held 0", "@9", "fill 0 b1", "ok", "things", "b0 b1", "take 0", "b1", "pile", "b0",
                  "take 0", "b0", "things", "b0 b1", "lost", "b0 b1", "sweep", "b0 b1", "things", "none")

    def test_goings(self):
        desk = Desk()
        self.says(desk, "put 5", "ok", "keep 3", "g0", "put 6", "ok", "keep " + SIXTY, "g1", "pile", "5 g0 6 g1",
                  "things", "g0 g1", "put 7", "ok", "put 8", "ok", "go 1 2", "@" + SIXTY, "pile", "5 g0 6 7 8",
                  "go 0 0", "@3", "pile", "5", "things", "none", "keep 0", "g0", "go 0 2", "@0", "pile", "5 5 g0")

    def test_pegs(self):
        desk = Desk()
        self.says(desk, "peg b 5", "ok", "peg abcdefgh -1", "ok", "peg a @2", "ok", "pegs", "a abcdefgh b", "pegged b",
                  "5", "peg b 6", "ok", "pegged b", "6", "unpeg a", "ok", "pegs", "abcdefgh b", "peg none 1", "ok",
                  "pegs", "abcdefgh b none", "pegged none", "1")

    def test_lists_of_worths(self):
        desk = self.at(BRIM_LESS)
        self.says(desk, "pile", "1 b2 g0 b2", "things", "b2 b4 b8 b9 g0 g5 g6 g7", "lost", "b8 b9 g6 g7",
                  "way b2", "b2", "way g5", "g5", "way b9", "none", "way g7", "none", "sweep", show_pile(BRIM_LOST),
                  "lost", "none", "sweep", "none", "things", "b2 b4 g0 g5")
        self.assertIn(desk.say("way b4"), ("g0 b4",))

    def test_ways(self):
        desk = self.at(([("box", 0)], [("a", ("box", 3))], [(0, 0, [("box", 2)])],
                        [(0, ("box", 1)), (1, ("go", 0)), (2, ("num", 0)), (3, ("num", 5))]))
        self.says(desk, "way b0", "b0", "way b1", "b0 b1", "way g0", "b0 b1 g0", "way b2", "b0 b1 g0 b2", "way b3", "b3")
        self.refused(desk, NoThing, "way b4", "way g1", "way 0", "way @0", "way b" + SIXTY)

    def test_numbers_of_pieces(self):
        desk, house = Desk(), Pieces(8)
        for n in range(40):
            desk.say(f"put {n}")
            house.put(("num", n))
        for _ in range(15):
            self.assertEqual(desk.say("take 0"), show_worth(house.take()))
            self.assertEqual(numbers(desk), [str(n) for n in (house.room(), house.moved(), house.made(),
                                                              house.height())])
        self.says(desk, "tidy", "ok")
        house.tidy()
        self.assertEqual(numbers(desk), [str(n) for n in (house.room(), house.moved(), house.made(), house.height())])
        self.assertEqual(desk.house(), house.picture())

    def test_show(self):
        desk = self.at(BRIM_LESS)
        self.says(desk, "show", BRIM_TEXT)
        self.says(Desk(), "peg a 3", "ok", "show", "pile none; peg a 3", )


class LaidAnew(Desks):
    def test_size(self):
        desk = Desk()
        for n in range(9):
            desk.say(f"put {n}")
        for size in (2, 3, 4, 8, 9, 63, 64):
            picture = desk.house()
            house = laid(size, picture)
            self.says(desk, f"size {size}", "ok", "moved", "0", "made", str(house.made()), "room", str(house.room()),
                      "pile", "0 1 2 3 4 5 6 7 8")
            self.assertEqual(desk.house(), picture)
            for worth in ("1", "2", "3"):
                desk.say("take 0")
                house.take()
                self.assertEqual(numbers(desk), [str(n) for n in (house.room(), house.moved(), house.made(),
                                                                  house.height())])
            for n in (6, 7, 8):
                desk.say(f"put {n}")

    def test_the_same_size_lays_anew_too(self):
        desk = Desk()
        for n in range(9):
            desk.say(f"put {n}")
        self.says(desk, "moved", "4", "size 8", "ok", "moved", "0", "made", "3", "room", "3")

    def test_sizes_that_are_none(self):
        desk = self.at(BRIM_LESS, 5)
        self.refused(desk, NoSize, "size 0", "size 1", "size 65", "size 100", "size " + SIXTY)

    def test_load(self):
        for size in (2, 5, 8, 64):
            for picture in [EMPTY, BRIM_LESS] + [random_picture(random.Random(n)) for n in range(20)]:
                desk = Desk()
                desk.say(f"size {size}")
                desk.say("put 1")
                desk.say("box")
                house = laid(size, picture)
                self.says(desk, "load " + show_picture(picture), "ok", "moved", "0", "made", str(house.made()), "show",
                          show_picture(picture))
                self.assertEqual(desk.house(), picture)
                for n in range(12):
                    desk.say(f"put {n}")
                    house.put(("num", n))
                    self.assertEqual(desk.say("moved"), str(house.moved()))

    def test_what_it_showed_is_loaded(self):
        desk, other = self.at(BRIM_LESS), Desk()
        desk.say("keep 5")
        desk.say("run 500 " + show_program([("put", 1), ("keep", 0), ("jump", 0)]))
        text = desk.say("show")
        self.assertGreater(len(text), 4000)
        self.says(other, "load " + text, "ok", "show", text)

    def test_load_of_what_writes_no_picture(self):
        desk = self.at(BRIM_LESS)
        self.refused(desk, NoText, *["load " + text for text in (
            "", " ", "pile", "pile ", " pile none", "pile none ", "pile  none", "none", "pile b0", "pile 01", "pile -0",
            "pile none; peg A 1", "pile none; box 0 1", "pile b0; box 0 1; peg a 1", "pile " + LONG, "put 1", "add",
            "pile none\n", "\n", "\tpile none", "pile \u0661", "\u00e4", "pile none%", "%", "\x00", "8 pile none",
            BRIM_TEXT + " ", BRIM_TEXT + "; ", BRIM_TEXT.replace("; ", ";"))])


class Programs(Desks):
    def test_run(self):
        desk = Desk()
        self.says(desk, "run 10 put 3; put 4; add; tell", "done 4 4 7", "pile", "none",
                  "run 3 put 3; put 4; add; tell", "more 3 3 none", "pile", "7",
                  "run 10 tell; tell", "stuck 1 1 7", "pile", "none",
                  "run 0 put 1", "more 0 0 none", "run 1 put 1", "done 1 1 none", "pile", "1",
                  "run 1000 put 2; box; keep 2; tell; tell; tell", "done 6 6 g0 b0 1", "pile", "none",
                  "run 1000 jump 0", "more 0 1000 none", "run 5 call 1", "done 1 1 none", "pile", "@1",
                  "run 0 add", "stuck 0 0 none")

    def test_a_text_without_signs(self):
        for picture in (EMPTY, BRIM_LESS):
            desk = self.at(picture)
            for steps in ("0", "1", "1000"):
                self.says(desk, f"run {steps} ", "done 0 0 none")
            self.assertEqual(desk.house(), picture)
            self.refused(desk, NoRow, "run", "run ", "run 0", "run 1000")

    def test_whole_programs(self):
        self.says(self.at(([("num", 5)], [], [], [])), "run 1000 " + show_program(DOWN), "done 9 41 5 4 3 2 1 0")
        self.says(self.at(([("num", 100)], [], [], [])), "run 1000 " + show_program(SUM), "done 11 803 5050")
        self.says(Desk(), "run 1000 " + show_program(THRICE), "done 20 49 3 2 1", "show",
                  "pile b0 g0 77; going 0 @3 b0; box 0 0")
        self.says(Desk(), "run 44 " + show_program(RINGS), "more 0 44 b1 b2 b2 b2", "lost", "b1 g1")

    def test_steps(self):
        desk = self.at(BRIM_LESS)
        self.refused(desk, NoSteps, "run 1001 add", "run 1001 ", "run 1002 put 1; tell", f"run {SIXTY} add")
        self.says(desk, "run 1000 jump 1", "done 1 1 none")

    def test_text_that_writes_no_program(self):
        desk = self.at(BRIM_LESS)
        texts = (" ", "  add", " add", "add ", "add;", "add; ", "add;add", "add, add", "put", "put 01", "put -0", "put b1",
                 "add 1", "jump 2", "pick -1", "PUT 1", "none", "pile none", "put " + LONG, "add\n", "\n", "\tadd",
                 "put \u0661", "\u00e4", "add%", "%", "\x00", "add; jump 3", "1 add", "-1")
        for steps in ("0", "5", "1000", "1001", SIXTY):
            self.refused(desk, NoText, *[f"run {steps} {text}" for text in texts])

    def test_a_run_that_is_stuck_keeps_what_it_did(self):
        desk = Desk()
        self.says(desk, "run 9 put 1; put 2; box; add", "stuck 3 3 none", "show", "pile 1 b0; box 0 2")


class Refused(Desks):
    def test_no_row_of_anything(self):
        desk = self.at(BRIM_LESS)
        self.refused(desk, NoRow, *[odd for odd in odd_things()])
        self.refused(desk, NoRow, b"show", ["show"], ("show",), ["put", ("num", 1)], ("put", "1"), {"show": 1})

    def test_other_words(self):
        desk = self.at(BRIM_LESS)
        self.refused(desk, NoRow, "", " ", "  ", "\n", "Show", "SHOW", "shows", "sho", " show", "show ", "\tshow", "show\n",
                     "show; show", "paper", "picture", "house", "goings", "boxes", "add", "tell", "drop 0", "pick 0",
                     "ok", "none", "1", "b2", "put1", "put\t1", "put,1", "\u00e4", "ahead", "handed", "counts", "text",
                     "number 1", "worth 1", "name a")

    def test_too_many_and_too_few_words(self):
        desk = self.at(BRIM_LESS)
        for word in BARE:
            self.refused(desk, NoRow, word + " ", word + "  ", f"{word} 0", f"{word} 1", f"{word} {word}", word + "\n")
        for word in OF_NUMBER + OF_NAME + OF_WORTH:
            good = "a" if word in OF_NAME else "2"
            self.refused(desk, NoRow, word, word + " ", f"{word}  {good}", f"{word} {good} ", f"{word} {good} {good}",
                         f" {word} {good}", f"{word} {good}  ", f"{word}\t{good}", f"{word} {good}\n")
        for word, one, two in (("fill", "2", "3"), ("peg", "a", "3"), ("go", "0", "0")):
            self.refused(desk, NoRow, word, f"{word} ", f"{word} {one}", f"{word} {one} ", f"{word}  {one} {two}",
                         f"{word} {one}  {two}", f"{word} {one} {two} ", f"{word} {one} {two} {two}", f"{word} {one}\t{two}",
                         f"{word}  {two}", f" {word} {one} {two}")
        self.refused(desk, NoRow, "load", "load\t" + BRIM_TEXT, "loadpile none", "run", "run ", "run  ", "run add", "run  add",
                     "run 5", "run 5\tadd", "run 5\n", "run  5 add", "run add 5")

    def test_words_that_are_no_numbers(self):
        desk = self.at(BRIM_LESS)
        for number in NO_NUMBERS:
            self.refused(desk, NoRow, *[f"{word} {number}" for word in OF_NUMBER])
            self.refused(desk, NoRow, f"fill {number} 1", f"go {number} 0", f"go 0 {number}", f"go {number} {number}",
                         f"run {number} add", f"run {number} ", f"run {number} no program")

    def test_words_that_are_no_worths(self):
        desk = self.at(BRIM_LESS)
        for worth in NO_WORTHS:
            self.refused(desk, NoRow, f"put {worth}", f"way {worth}", f"fill 2 {worth}", f"peg a {worth}",
                         f"peg new {worth}", f"fill 77 {worth}")

    def test_words_that_are_no_names(self):
        desk = self.at(BRIM_LESS)
        for name in NO_NAMES:
            self.refused(desk, NoRow, f"unpeg {name}", f"pegged {name}", f"peg {name} 1", f"peg {name} b99")

    def test_what_the_stages_refuse(self):
        desk = self.at(BRIM_LESS)
        self.refused(desk, NoThing, "put b0", "put g1", "put b" + SIXTY, "fill 2 b0", "fill 0 1", "fill 0 b0", "peg a g1",
                     "held 0", "held " + SIXTY, "go 1 0", "go 1 99", "go " + SIXTY + " 0", "way b0", "way 1")
        self.refused(desk, NoPlace, "take 4", "take " + SIXTY, "look 4", "lift 4", "go 0 5", "go 0 " + SIXTY)
        self.refused(desk, NoName, "unpeg d", "pegged abcdefgh", "pegged none", "unpeg zz")
        desk = Desk()
        self.refused(desk, NoPlace, "take 0", "look 0", "lift 0", "box")
        self.says(desk, "keep " + SIXTY, "g0", "go 0 1", "@" + SIXTY, "pile", "g0")
        self.refused(desk, NoPlace, "go 0 2")


class Alike(Desks):
    def row(self, rng, rows, house):
        """A row for the desk; house is a plain one."""
        lean = rng.random()
        if lean < 0.05:
            return f"size {rng.choice((1, 2, 3, 4, 5, 8, 64, 65))}"
        if lean < 0.08:
            picture = random_picture(rng)
            return "load " + rng.choice((show_picture(picture), show_picture(house.picture()), "pile b0", ""))
        if lean < 0.14:
            program = rng.choice((random_program(rng, 9), fitted_program(rng, whole_house(house.picture()), 30)))
            return f"run {rng.choice((0, 1, 5, 40, 1001))} {show_program(program)}"
        if lean < 0.4:
            return rng.choice(("lost", "things", "pile", "pegs", "height", "room", "moved", "made", "show", "tidy", "sweep",
                               f"way {show_worth(('box', rng.randint(0, 3)))}", f"way g{rng.randint(0, 3)}"))
        while True:
            deed = rows.deed(house)
            if deed[0] == "go" and len(deed) == 2:
                deed += (0,)
            if deed[0] in ("take", "look") and len(deed) == 1:
                deed += (0,)
            if deed[0] in ("pile_of", "place_of", "goings", "boxes", "picture"):
                continue
            words = [show_worth(one) if type(one) is tuple else str(one) for one in deed[1:]
                     if type(one) is not tuple or one[0] in ("num", "at", "box", "go")]
            return " ".join([deed[0]] + words)

    def told(self, desk, row):
        try:
            return desk.say(row)
        except PileError as why:
            return type(why)

    def test_long_rows(self):
        words, errors = set(), set()
        for seed in range(30):
            rng = random.Random(seed)
            desk, plain = Desk(), PlainDesk()
            rows = Rows(rng, 0.3, 40)
            for _ in range(150):
                row = self.row(rng, rows, plain.house)
                told = self.told(desk, row)
                if told is NoRow:
                    continue
                again = self.told(plain, row)
                with self.subTest(seed=seed, row=row):
                    if plain.counted or row not in ("room", "moved", "made"):
                        self.assertEqual(told, again)
                    picture = desk.house()
                    self.assertEqual(picture, plain.house.picture())
                    self.assertIs(is_picture(picture), True)
                words.add(row.partition(" ")[0])
                errors.add(told if type(told) is type else None)
        self.assertEqual(words, set(BARE + OF_NUMBER + OF_NAME + OF_WORTH + ("fill", "peg", "go", "load", "run")))
        self.assertEqual(errors, {NoThing, NoPlace, NoName, NoSize, NoSteps, NoText, None})

    def test_desks_share_nothing(self):
        one, other = Desk(), Desk()
        one.say("put 1")
        one.say("size 2")
        self.assertEqual((other.house(), other.say("room")), (EMPTY, "1"))

    def test_told_pictures_are_the_askers_own(self):
        desk = self.at(BRIM_LESS)
        first, other = desk.house(), desk.house()
        rows = [one for picture in (first, other) for one in list(picture) + [row[2] for row in picture[2]]]
        self.assertEqual(len({id(row) for row in rows}), len(rows))
        for row in rows:
            row.append(("num", 1))
        self.assertEqual(desk.house(), BRIM_LESS)
        told = desk.house()
        desk.say("take 0")
        desk.say("sweep")
        desk.say("load pile 1")
        self.assertEqual(told, BRIM_LESS)


if __name__ == "__main__":
    unittest.main()
