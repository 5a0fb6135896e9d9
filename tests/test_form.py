"""The interface stands where the document lists it, and the files keep a few plain limits."""

import ast
import pathlib
import unittest

PACKAGE = pathlib.Path(__file__).resolve().parent.parent / "manygoings"
INTERFACE = {
    "errors": {"PileError": 0, "NoWorth": 0, "NoThing": 0, "NoPlace": 0, "NoName": 0, "NoSize": 0,
               "NoPicture": 0, "NoProgram": 0, "NoSteps": 0, "NoText": 0, "NoRow": 0},
    "worths": {"is_worth": 1, "things_of": 1, "show_worth": 1, "show_pile": 1, "read_worth": 1,
               "read_pile": 1},
    "papers": {"is_paper": 2, "opened": 2, "holders": 1, "kept": 1, "spots": 1},
    "tight": {"tight": 2},
    "pictures": {"is_picture": 1, "things": 1, "roots": 1, "holds": 2},
    "rings": {"reached": 1, "lost": 1, "is_way": 2, "is_shut": 2, "way_to": 2, "lost_ring": 1, "swept": 1},
    "copies": {"Copies": 0, "copied": 1},
    "pieces": {"Pieces": 1, "laid": 2},
    "rows": {"is_program": 1},
    "machine": {"run": 4},
    "texts": {"show_program": 1, "show_picture": 1, "read_program": 1, "read_picture": 1},
    "desk": {"Desk": 0},
}
# What each method takes beside its object, and how much of that may be left out.
DEEDS = {"put": (1, 0), "take": (1, 1), "lift": (1, 0), "look": (1, 1), "height": (0, 0), "pile": (0, 0),
         "keep": (1, 0), "go": (2, 1), "box": (0, 0), "held": (1, 0), "fill": (2, 0), "peg": (2, 0),
         "pegged": (1, 0), "unpeg": (1, 0), "pegs": (0, 0), "goings": (0, 0), "boxes": (0, 0),
         "pile_of": (1, 0), "place_of": (1, 0), "sweep": (0, 0), "picture": (0, 0)}
OF_PIECES = {word: (0, 0) for word in ("made", "handed", "room", "moved", "ahead", "size", "paper",
                                       "counts", "tidy")}
METHODS = {("copies", "Copies"): DEEDS, ("pieces", "Pieces"): {**DEEDS, **OF_PIECES},
           ("desk", "Desk"): {"say": (1, 0), "house": (0, 0)}}


def parsed(path):
    return ast.parse(path.read_text(encoding="utf-8"))


def functions(node):
    """For each function of a module, or method of a class, how much it takes and may be left out."""
    return {one.name: (len(one.args.args), len(one.args.defaults)) for one in node.body
            if isinstance(one, ast.FunctionDef)}


def classes(path):
    return {node.name: node for node in parsed(path).body if isinstance(node, ast.ClassDef)}


class Form(unittest.TestCase):
    def test_each_name_is_defined_in_its_file(self):
        for name, told in INTERFACE.items():
            path = PACKAGE / f"{name}.py"
            defined = {word: many for word, (many, _) in functions(parsed(path)).items()}
            for word, node in classes(path).items():
                defined[word] = functions(node).get("__init__", (1, 0))[0] - 1
            for word, many in told.items():
                with self.subTest(file=name, word=word):
                    self.assertEqual(defined.get(word), many)

    def test_each_method_is_defined_in_its_class(self):
        for (name, word), told in METHODS.items():
            defined = functions(classes(PACKAGE / f"{name}.py")[word])
            for method, (many, less) in told.items():
                with self.subTest(file=name, method=method):
                    self.assertEqual(defined.get(method), (many + 1, less))

    def test_of_a_run_the_first_row_may_be_left_out(self):
        self.assertEqual(functions(parsed(PACKAGE / "machine.py"))["run"], (4, 1))

    def test_lines_and_signs(self):
        for path in PACKAGE.glob("*.py"):
            lines = path.read_text(encoding="utf-8").split("\n")
            self.assertLessEqual(len(lines), 400)
            for line in lines:
                self.assertLessEqual(len(line), 120)
                self.assertTrue(all(" " <= sign <= "~" for sign in line), line)

    def test_functions_are_short(self):
        for path in PACKAGE.glob("*.py"):
            for node in ast.walk(parsed(path)):
                if isinstance(node, ast.FunctionDef):
                    self.assertLessEqual(node.end_lineno - node.lineno + 1, 40, node.name)

    def test_imports_are_from_the_package(self):
        for path in PACKAGE.glob("*.py"):
            for node in ast.walk(parsed(path)):
                self.assertNotIsInstance(node, ast.Import)
                if isinstance(node, ast.ImportFrom):
                    self.assertTrue(node.module.startswith("manygoings."), node.module)

    def test_the_folder_has_python_files_alone(self):
        for path in PACKAGE.iterdir():
            self.assertTrue(path.suffix == ".py" or path.name == "__pycache__", path)


if __name__ == "__main__":
    unittest.main()
