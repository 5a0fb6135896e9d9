"""The interface stands where the document lists it, and the files keep a few plain limits."""

import ast
import pathlib
import unittest

PACKAGE = pathlib.Path(__file__).resolve().parent.parent / "manygoings"
INTERFACE = {
    "errors": {"PileError": 0, "NoWorth": 0, "NoThing": 0, "NoPlace": 0, "NoName": 0, "NoSize": 0,
               "NoPicture": 0, "NoProgram": 0, "NoSteps": 0, "NoText": 0, "NoRow": 0},
    "worths": {"is_worth": 1, "things_of": 1, "show_worth": 1, "show_pile": 1, "read_worth": 1,
               "read_pile": 1},
    "papers": {"is_paper": 2, "opened": 2, "holders": 1, "kept": 1, "spots": 1},
    "tight": {"tight": 2},
}


def parsed(path):
    return ast.parse(path.read_text(encoding="utf-8"))


class Form(unittest.TestCase):
    def test_each_name_is_defined_in_its_file(self):
        for name, told in INTERFACE.items():
            defined = {}
            for node in parsed(PACKAGE / f"{name}.py").body:
                if isinstance(node, ast.FunctionDef):
                    defined[node.name] = len(node.args.args)
                elif isinstance(node, ast.ClassDef):
                    defined[node.name] = 0
            for word, many in told.items():
                with self.subTest(file=name, word=word):
                    self.assertEqual(defined.get(word), many)

    def test_lines_and_signs(self):
        for path in PACKAGE.glob("*.py"):
            lines = path.read_text(encoding="utf-8").split("\n")
            self.assertLessEqual(len(lines), 400)
            for line in lines:
                self.assertLessEqual(len(line), 120)
                self.assertTrue(all(" " <= sign <= "~" for sign in line), line)

    def test_functions_are_short(self):
        for path in PACKAGE.glob("*.py"):
            for node in ast.walk(parsed(path)):
                if isinstance(node, ast.FunctionDef):
                    self.assertLessEqual(node.end_lineno - node.lineno + 1, 40, node.name)

    def test_imports_are_from_the_package(self):
        for path in PACKAGE.glob("*.py"):
            for node in ast.walk(parsed(path)):
                self.assertNotIsInstance(node, ast.Import)
                if isinstance(node, ast.ImportFrom):
                    self.assertTrue(node.module.startswith("manygoings."), node.module)

    def test_the_folder_has_python_files_alone(self):
        for path in PACKAGE.iterdir():
            self.assertTrue(path.suffix == ".py" or path.name == "__pycache__", path)


if __name__ == "__main__":
    unittest.main()
