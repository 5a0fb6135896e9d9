"""Points 2, 3, 36 and 37: programs and pictures written and read back."""

import copy
import random
import unittest

from odd_things import odd_things
from some_pictures import BRIM, EMPTY, chain, random_picture, small_pictures
from some_programs import BARE, DEEP, DOWN, EACH_ROW, LEADING, RINGS, SUM, THRICE, WORDS, random_program

from manygoings.errors import NoText
from manygoings.pictures import is_picture
from manygoings.rows import is_program
from manygoings.texts import read_picture, read_program, show_picture, show_program

SIXTY = "1" + "0" * 58 + "7"
LONG = SIXTY + "1"
EACH_TEXT = ("put -7; pick 0; drop 12; lift 1" + "0" * 60 + "; go 3; back 1; keep 18; call 0; jump 17; if 4; add; "
             "less; box; get; set; tell; sweep; put 0")
BRIM_TEXT = ("pile 1 b2 g0 b2; peg a g5; peg b 7; peg c b2; going 0 @3 b4 0 b2 b4; going 5 @0 none; "
             "going 6 @1 g6 b9; going 7 @1" + "0" * 60 + " b8 @3; box 2 -3; box 4 g5; box 8 g7; box 9 b4")
# Like BRIM, but with a place of no more than sixty figures.
BRIM_LESS = (BRIM[0], BRIM[1], BRIM[2][:3] + [(7, 10 ** 59, BRIM[2][3][2])], BRIM[3])
SIGNS = [chr(code) for code in range(32, 127) if code != 37]


class Texts(unittest.TestCase):
    def none(self, read, texts):
        for text in texts:
            with self.subTest(text=text):
                with self.assertRaises(NoText) as met:
                    read(text)
                self.assertIs(type(met.exception), NoText)

    def one_writing(self, rng, text, read, show, signs, many):
        """Texts that are a little unlike one that is right write nothing, or something else."""
        right = read(text)
        hits = 0
        for _ in range(many):
            at, end = rng.randint(0, len(text)), rng.choice((0, 1, 1, 1, 2))
            other = text[:at] + rng.choice(("", rng.choice(signs), rng.choice(signs) * 2)) + text[at + end:]
            try:
                thing = read(other)
            except NoText:
                continue
            self.assertEqual(show(thing), other)
            self.assertEqual(thing == right, other == text)
            hits += other != text
        return hits


class Programs(Texts):
    def test_each_row_is_written(self):
        written = EACH_TEXT.split("; ")
        self.assertEqual(len(written), len(EACH_ROW))
        self.assertEqual(show_program(EACH_ROW), EACH_TEXT)
        for row, text in zip(EACH_ROW, written):
            if row[0] not in LEADING:
                self.assertEqual(show_program([row]), text)

    def test_programs_are_read_back(self):
        for rows in ([], DOWN, SUM, THRICE, RINGS, [("put", int(SIXTY))], [("put", -int(SIXTY))],
                     [("pick", int(SIXTY))], EACH_ROW[4:] * 3, DOWN * 100):
            with self.subTest(rows=rows):
                text = show_program(rows)
                self.assertIs(type(text), str)
                told = read_program(text)
                self.assertEqual(told, rows)
                self.assertIs(is_program(told), True)
        rng = random.Random(36)
        for _ in range(300):
            rows = random_program(rng)
            self.assertEqual(read_program(show_program(rows)), rows)

    def test_no_rows(self):
        self.assertEqual(show_program([]), "")
        self.assertEqual(read_program(""), [])

    def test_numbers(self):
        for n, text in ((0, "0"), (7, "7"), (-7, "-7"), (100, "100"), (int(SIXTY), SIXTY), (-int(SIXTY), "-" + SIXTY)):
            self.assertEqual(show_program([("put", n)]), "put " + text)
            self.assertEqual(read_program("put " + text), [("put", n)])
        for word in DEEP:
            for n in (0, 5, 60, int(SIXTY)):
                self.assertEqual(read_program(f"{word} {n}"), [(word, n)])
        for word in LEADING:
            for n in range(4):
                self.assertEqual(read_program(f"{word} {n}; add; sweep"), [(word, n), ("add",), ("sweep",)])

    def test_too_many_figures(self):
        for word in DEEP + LEADING + ("put",):
            self.none(read_program, [f"{word} {LONG}", f"add; {word} {LONG}; add", f"{word} {'1' * 5000}",
                                     f"{word} {'0' * 61}"])
        self.none(read_program, ["put -" + LONG, show_program([("put", 10 ** 60)]), show_program([("lift", 10 ** 60)]),
                                 EACH_TEXT])
        self.assertEqual(show_program([("put", 10 ** 60)]), "put 1" + "0" * 60)
        self.assertEqual(len(show_program([("put", -10 ** 3999)])), 4005)

    def test_numbers_that_are_written_in_another_way(self):
        ways = ["", "-", "-0", "+0", "+1", "00", "01", "-01", "1.0", "1_0", "1e3", "0x1", "--1", "1-", "a", "b1", "@1",
                "g1", "num", "True", " 1", "1 ", "1 1", "\t1", "1\n", "\u0661", "\u00b2", "\uff11", "\u22121"]
        for word in DEEP + LEADING + ("put",):
            self.none(read_program, [word] + [f"{word} {way}" for way in ways])
            self.none(read_program, [f"add; {word} {way}; add" for way in ways])

    def test_below_0_only_behind_put(self):
        self.assertEqual(read_program("put -1; add"), [("put", -1), ("add",)])
        for word in DEEP + LEADING:
            self.none(read_program, [f"{word} -1", f"{word} -0", f"add; {word} -1; add"])

    def test_rows_that_lead_out_of_the_program(self):
        for word in LEADING:
            self.none(read_program, [f"{word} 2", f"{word} 3; add", f"add; {word} 3", f"add; {word} {SIXTY}"])
            self.assertEqual(read_program(f"add; {word} 2"), [("add",), (word, 2)])

    def test_words_with_a_number_too_many(self):
        for word in BARE:
            self.assertEqual(read_program(word), [(word,)])
            self.none(read_program, [f"{word} ", f"{word} 0", f"{word} 1", f" {word}", f"{word};", f"{word}; ",
                                     f"; {word}", f"{word}\n", word.upper(), word[:-1], word + "s"])

    def test_blanks_and_signs_between(self):
        for between in (";", " ;", " ; ", ";  ", "  ", " ", ",", ", ", "\n", ";\n", ";\t", "; ; ", ";; ", ": ", "", "."):
            self.none(read_program, [f"add{between}put 1", f"put 1{between}add", f"put 1{between}put 1"])
        self.none(read_program, [" ", "  ", ";", "; ", ";;", "\n", "put  1", "put\t1", "put1", "put 1; ", " put 1",
                                 "put 1 ", "none", "pile none", "0", "-1", "b0"])

    def test_whatever_is_no_text(self):
        self.none(read_program, [thing for thing in odd_things() if type(thing) is not str or thing != ""])
        self.none(read_program, [[], [("add",)], ["add"], ("add",), b"add", b""])

    def test_each_program_has_one_writing(self):
        rng = random.Random(361)
        signs = list("; -01279abdegjlmnopqrstu") + SIGNS
        hits = 0
        for text in ("", "add", show_program(DOWN), show_program(SUM), show_program(THRICE), show_program(RINGS)):
            hits += self.one_writing(rng, text, read_program, show_program, signs, 1500)
        self.assertGreater(hits, 30)

    def test_unlike_programs_are_written_unlike(self):
        rng = random.Random(362)
        told = {}
        for _ in range(3000):
            rows = random_program(rng, 2)
            self.assertEqual(told.setdefault(show_program(rows), rows), rows)

    def test_lists_are_new_and_the_asked_ones_stay(self):
        rows = copy.deepcopy(THRICE)
        show_program(rows)
        self.assertEqual(rows, THRICE)
        for text in ("", "add; put 3"):
            told, other = read_program(text), read_program(text)
            self.assertIsNot(told, other)
            before = list(other)
            told.append(("add",))
            self.assertEqual((other, read_program(text)), (before, before))


class Pictures(Texts):
    def test_pictures_are_written(self):
        self.assertEqual(show_picture(BRIM), BRIM_TEXT)
        self.assertEqual(show_picture(EMPTY), "pile none")
        self.assertEqual(show_picture(([("num", -3), ("at", 4)], [], [], [])), "pile -3 @4")
        self.assertEqual(show_picture(([], [("abcdefgh", ("at", 0))], [], [])), "pile none; peg abcdefgh @0")
        self.assertEqual(show_picture(([("go", 12)], [], [(12, 0, [])], [])), "pile g12; going 12 @0 none")
        self.assertEqual(show_picture(([("box", 3)], [], [], [(3, ("num", 0))])), "pile b3; box 3 0")

    def test_pictures_are_read_back(self):
        rng = random.Random(37)
        pictures = [EMPTY, BRIM_LESS, chain(300)] + [random_picture(rng) for _ in range(400)]
        pictures += [([("num", int(SIXTY))] * 400, [("a", ("num", -int(SIXTY)))], [], [])]
        for picture in pictures + list(small_pictures())[::7]:
            text = show_picture(picture)
            told = read_picture(text)
            self.assertEqual(told, picture)
            self.assertEqual([type(one) for one in told], [list] * 4)
            self.assertIs(is_picture(told), True)
            self.assertEqual(show_picture(told), text)

    def test_great_pictures_are_read_back(self):
        kept = [("num", n) for n in range(340)] + [("go", g) for g in range(60)]
        picture = (kept, [("a", ("box", 59))], [(g, g, kept) for g in range(60)], [(b, ("box", b)) for b in range(60)])
        self.assertIs(is_picture(picture), True)
        self.assertEqual(read_picture(show_picture(picture)), picture)

    def test_too_many_figures(self):
        self.none(read_picture, [BRIM_TEXT, f"pile {LONG}", f"pile -{LONG}", f"pile @{LONG}",
                                 f"pile none; peg a {LONG}", f"pile g{LONG}; going {LONG} @0 none",
                                 f"pile g0; going 0 @{LONG} none", f"pile g0; going 0 @0 {LONG}",
                                 f"pile b{LONG}; box {LONG} 0", f"pile b0; box 0 {LONG}", "pile " + "1" * 5000])
        for text in (f"pile {SIXTY}", f"pile none; peg a {SIXTY}", f"pile g{SIXTY}; going {SIXTY} @{SIXTY} {SIXTY}",
                     f"pile b{SIXTY}; box {SIXTY} -{SIXTY}"):
            self.assertEqual(show_picture(read_picture(text)), text)

    def test_parts_in_another_order(self):
        parts = show_picture(BRIM_LESS).split("; ")
        self.assertEqual(read_picture("; ".join(parts)), BRIM_LESS)
        for at in range(len(parts)):
            for to in range(len(parts)):
                other = parts[:at] + parts[at + 1:]
                other.insert(to, parts[at])
                if other != parts:
                    self.none(read_picture, ["; ".join(other)])

    def test_parts_that_are_lacking_or_stand_twice(self):
        parts = show_picture(BRIM_LESS).split("; ")
        for at, part in enumerate(parts):
            twice = "; ".join(parts[:at] + [part, part] + parts[at + 1:])
            self.none(read_picture, [twice])
            # A peg whose thing stands elsewhere too, or that has none, may be taken away.
            if not part.startswith("peg"):
                self.none(read_picture, ["; ".join(parts[:at] + parts[at + 1:])])
        self.none(read_picture, ["pile 1; pile 1", "pile none; pile none", "pile 1; pile 2", "peg a 1", "box 0 1", "",
                                 "pile 1; pile none", "pile none; pile 1"])

    def test_numbers_names_and_worths_that_are_none(self):
        for name in ("", "A", "a1", "abcdefghi", "a-b", "\u00e4", "a.", "1", "peg A", "a\n"):
            self.none(read_picture, [f"pile none; peg {name} 1"])
        for worth in ("", "-", "-0", "01", "+1", "b", "b-1", "g01", "n1", "none", "a", "1 1", "1 ", " 1", "@-1", "\u0661"):
            self.none(read_picture, [f"pile none; peg a {worth}", f"pile b0; box 0 {worth}"])
            if worth != "1 1":
                self.none(read_picture, [f"pile {worth} {worth}", f"pile 1 {worth} 1 1",
                                         f"pile g0; going 0 @0 {worth} {worth}"])
        for number in ("", "-1", "-0", "00", "+0", "a", "@0", "g0", "b0", "0.", "\u0660", " 0", "0 "):
            self.none(read_picture, [f"pile b0; box {number} 1", f"pile g0; going {number} @0 none",
                                     f"pile g0; going 0 @{number} none"])
        for place in ("0", "b0", "g0", "-1", "@", "@01", "@@0", "@0@", "none", "", "@ 0"):
            self.none(read_picture, [f"pile g0; going 0 {place} none", f"pile g0; going 0 {place}"])

    def test_what_would_write_no_picture(self):
        self.none(read_picture, ["pile b0", "pile g0", "pile none; box 0 1", "pile none; going 0 @0 none",
                                 "pile none; peg a b0", "pile b0; box 0 b1", "pile b1; box 0 1",
                                 "pile b0 b1; box 1 1; box 0 1", "pile g0 g1; going 1 @0 none; going 0 @0 none",
                                 "pile none; peg b 1; peg a 1", "pile none; peg a 1; peg a 1",
                                 "pile b0; box 0 1; box 0 1", "pile g0; going 0 @0 none; going 0 @1 none"])
        self.assertEqual(read_picture("pile none; box 0 b0"), ([], [], [], [(0, ("box", 0))]))
        self.assertEqual(read_picture("pile none; going 0 @0 g0"), ([], [], [(0, 0, [("go", 0)])], []))

    def test_blanks_and_signs_between(self):
        good = "pile b0 g0; peg a b0; going 0 @1 b0 2; box 0 -1"
        self.assertEqual(show_picture(read_picture(good)), good)
        for at, sign in enumerate(good):
            if sign == " ":
                self.none(read_picture, [good[:at] + "  " + good[at + 1:], good[:at] + "\t" + good[at + 1:],
                                         good[:at] + good[at + 1:]])
            if sign == ";":
                self.none(read_picture, [good[:at] + good[at + 1:], good[:at] + ";;" + good[at + 1:],
                                         good[:at] + "," + good[at + 1:], good[:at] + " ;" + good[at + 1:]])
        self.none(read_picture, [" " + good, good + " ", good + ";", good + "; ", "; " + good, good + "\n", "\n" + good,
                                 "", " ", "pile", "pile ", " pile none", "pile none ", "pilenone", "none", "Pile none",
                                 "pile None", "pile none none", "pile none 1", "pile 1 none", "pile none; ", "1", "add",
                                 "pile none; pegs", "pile none; peg", "pile none; peg a", "pile b0; box 0", "pile b0; box",
                                 "pile g0; going", "pile g0; going 0", "pile g0; going 0 @0", "pile g0; going 0 @0 ",
                                 "pile none; place 1", "pile g0; go 0 @0 none", "pile none; ; peg a 1"])

    def test_whatever_is_no_text(self):
        self.none(read_picture, odd_things())
        self.none(read_picture, [EMPTY, BRIM, b"pile none", ["pile none"], ("pile none",), [], None])

    def test_each_picture_has_one_writing(self):
        rng = random.Random(371)
        signs = list("; -01279abegnopilx@") + SIGNS
        hits = 0
        texts = ["pile none", "pile 1 2", show_picture(BRIM_LESS), "pile b0 g0; peg a b0; going 0 @1 2 b0; box 0 -1"]
        for text in texts + [show_picture(random_picture(rng)) for _ in range(20)]:
            hits += self.one_writing(rng, text, read_picture, show_picture, signs, 700)
        self.assertGreater(hits, 30)

    def test_lists_are_new_and_the_asked_ones_stay(self):
        picture = copy.deepcopy(BRIM)
        show_picture(picture)
        self.assertEqual(picture, BRIM)
        for text in ("pile none", show_picture(BRIM_LESS), "pile g0 g1; going 0 @0 none; going 1 @0 none"):
            told, other = read_picture(text), read_picture(text)
            before = copy.deepcopy(other)
            rows = [one for picture in (told, other) for one in list(picture) + [row[2] for row in picture[2]]]
            self.assertEqual(len({id(row) for row in rows}), len(rows))
            for row in rows[:len(rows) // 2]:
                row.append(("num", 1))
            self.assertEqual((other, read_picture(text)), (before, before))

    def test_every_word_of_a_program_was_written(self):
        self.assertEqual({part.split(" ")[0] for part in EACH_TEXT.split("; ")}, set(WORDS))


if __name__ == "__main__":
    unittest.main()
