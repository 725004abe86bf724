"""The names and arguments of the interface, and the limits of the language for the files of the package."""

import ast
import importlib
import inspect
import pathlib
import unittest

FOLDER = pathlib.Path(__file__).resolve().parent.parent / "farword"

# The functions of each file and their arguments.
FUNCTIONS = {
    "books": {"is_name": ["text"], "is_lot": ["names"], "is_order": ["book", "order"], "is_input": ["book", "told"],
              "check_inputs": ["book", "inputs"]},
    "notation": {"format_book": ["book"], "parse_book": ["text"], "format_inputs": ["inputs"],
                 "parse_inputs": ["book", "text"]},
    "words": {"places_of": ["bits"], "check_places": ["bits"], "data_places": ["bits"], "coded": ["bits", "value"],
              "value_in": ["bits", "row"], "spot_of": ["bits", "row"], "state_of": ["bits", "row"],
              "mended": ["bits", "row"], "flipped": ["row", "places"], "differing": ["one", "other"],
              "count_rows": ["bits"]},
}
# The classes of each file, the arguments of their calls, and their properties and methods.
CLASSES = {
    "books": {"Book": (["holds", "modes", "barred", "commands", "alarms", "rows", "quiet"],
                       ["holds", "modes", "barred", "commands", "alarms", "rows", "quiet", "safe"],
                       {"mode_named": ["name"], "command_named": ["name"], "alarm_named": ["name"],
                        "row_named": ["name"], "with_part": ["sort", "part"], "without_part": ["sort", "name"],
                        "with_barred": ["lot"], "without_barred": ["lot"], "with_quiet": ["quiet"],
                        "same_as": ["other"]})},
}


def arguments_of(function):
    return list(inspect.signature(function).parameters)


class InterfaceTest(unittest.TestCase):
    def test_functions(self):
        for file, functions in FUNCTIONS.items():
            module = importlib.import_module(f"farword.{file}")
            for name, arguments in functions.items():
                with self.subTest(file=file, name=name):
                    function = getattr(module, name)
                    self.assertEqual(function.__module__, f"farword.{file}")
                    self.assertEqual(arguments_of(function), arguments)

    def test_classes(self):
        for file, classes in CLASSES.items():
            module = importlib.import_module(f"farword.{file}")
            for name, (arguments, properties, methods) in classes.items():
                made = getattr(module, name)
                self.assertEqual(made.__module__, f"farword.{file}")
                self.assertEqual(arguments_of(made), arguments)
                for word in properties:
                    self.assertIsInstance(vars(made)[word], property)
                for method, told in methods.items():
                    with self.subTest(file=file, name=name, method=method):
                        self.assertEqual(arguments_of(vars(made)[method]), ["self", *told])


class LanguageTest(unittest.TestCase):
    def setUp(self):
        self.texts = {path.name: path.read_text() for path in FOLDER.glob("*.py")}

    def test_the_folder_has_files_of_the_program_alone(self):
        self.assertIn("__init__.py", self.texts)
        for path in FOLDER.iterdir():
            if path.name != "__pycache__":
                self.assertEqual(path.suffix, ".py")

    def test_characters_and_sizes(self):
        for name, text in self.texts.items():
            with self.subTest(name=name):
                self.assertTrue(all(sign == "\n" or " " <= sign <= "~" for sign in text))
                lines = text.split("\n")
                self.assertLessEqual(len(lines) - 1, 399)
                self.assertLessEqual(max(len(line) for line in lines), 120)

    def test_functions_are_short(self):
        for name, text in self.texts.items():
            for node in ast.walk(ast.parse(text)):
                if isinstance(node, ast.FunctionDef):
                    with self.subTest(name=name, function=node.name):
                        self.assertLessEqual(node.end_lineno - node.lineno + 1, 40)

    def test_imports_are_of_the_package(self):
        for name, text in self.texts.items():
            for node in ast.walk(ast.parse(text)):
                self.assertNotIsInstance(node, ast.Import, name)
                if isinstance(node, ast.ImportFrom):
                    self.assertTrue(node.level == 0 and node.module.startswith("farword."), name)


if __name__ == "__main__":
    unittest.main()
