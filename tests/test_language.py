"""What ../shared/LANGUAGE.md lets the files of the package have, as far as it can be told by looking at them."""

import ast
import builtins
import pathlib
import re
import unittest

FOLDER = pathlib.Path(__file__).resolve().parent.parent / "farword"

# L2: what may be imported from outside of the package.
LIBRARY = {
    "heapq": {"heappush", "heappop", "heapify", "heapreplace", "heappushpop"},
    "math": {"gcd", "lcm", "isqrt", "comb", "perm", "factorial"},
    "itertools": {"product", "combinations", "permutations", "chain", "accumulate", "pairwise", "islice",
                  "zip_longest"},
    "collections": {"defaultdict", "deque"},
}
# L8, without what L27 takes away, and what has rules of its own.
BUILTINS = set("""len range enumerate zip min max sum abs sorted reversed int str bool list tuple dict set isinstance
ord repr any all divmod map super property ValueError KeyError IndexError LookupError ZeroDivisionError""".split())
# L25.
METHODS = set("""append clear copy count endswith extend find get index insert isalnum isalpha isdigit islower isspace
isupper items join keys ljust lower lstrip partition pop remove replace reverse rfind rjust rpartition rsplit rstrip
setdefault split splitlines startswith strip update upper values zfill bit_length add discard""".split())
STATEMENTS = (ast.FunctionDef, ast.ClassDef, ast.Return, ast.Assign, ast.AugAssign, ast.For, ast.While, ast.If,
              ast.With, ast.Raise, ast.Try, ast.Assert, ast.Delete, ast.ImportFrom, ast.Expr, ast.Pass, ast.Break,
              ast.Continue)
# L17.
BARRED_NAMES = set("""register mro elements open input law version_info with_traceback add_note attrgetter breakpoint
builtins compile copyright credits delattr dir eval exec exit gc getattr globals hasattr help id importlib license
locals methodcaller os quit setattr type vars sys""".split())
BARRED_WORDS = re.compile(r"\b(type|typing|typing_extensions|enum|Enum|IntEnum|StrEnum|Flag|IntFlag|Generic|Protocol|"
                          r"ABC|ABCMeta|namedtuple|NamedTuple|TypedDict|TYPE_CHECKING|abstractmethod)\b|"
                          r"dataclass|overload|contextmanager")
# L5, L28: the double-underscore methods that the package needs.
DOUBLE = {"__init__", "__enter__", "__exit__"}


def docstrings(tree):
    """The texts of all docstrings."""
    nodes = [node for node in ast.walk(tree) if isinstance(node, (ast.Module, ast.ClassDef, ast.FunctionDef))]
    return {id(node.body[0].value) for node in nodes if ast.get_docstring(node) is not None}


def bound_names(tree):
    """All names that are given to variables and parameters."""
    stored = [node.id for node in ast.walk(tree) if isinstance(node, ast.Name) and isinstance(node.ctx, ast.Store)]
    return stored + [node.arg for node in ast.walk(tree) if isinstance(node, ast.arg)]


class LanguageTest(unittest.TestCase):
    def setUp(self):
        self.texts = {path.name: path.read_text() for path in FOLDER.glob("*.py")}
        self.trees = {name: ast.parse(text) for name, text in self.texts.items()}

    def nodes(self, *kinds):
        """All nodes of these kinds, each with its place."""
        for name, tree in self.trees.items():
            for node in ast.walk(tree):
                if isinstance(node, kinds):
                    yield f"{name}:{getattr(node, 'lineno', 0)}", node

    def test_the_folder_has_files_of_the_program_alone(self):
        self.assertIn("__init__.py", self.texts)
        for path in FOLDER.iterdir():
            if path.name != "__pycache__":
                self.assertEqual(path.suffix, ".py")

    def test_characters_and_sizes(self):
        for name, text in self.texts.items():
            with self.subTest(name=name):
                self.assertTrue(all(sign == "\n" or " " <= sign <= "~" for sign in text))
                lines = text.split("\n")
                self.assertLessEqual(len(lines) - 1, 399)
                self.assertLessEqual(max(len(line) for line in lines), 120)

    def test_functions_are_short(self):
        for place, node in self.nodes(ast.FunctionDef):
            self.assertLessEqual(node.end_lineno - node.lineno + 1, 40, place)

    def test_imports(self):
        for place, node in self.nodes(ast.Import, ast.ImportFrom):
            self.assertIsInstance(node, ast.ImportFrom, place)
            self.assertEqual(node.level, 0, place)
            names = {alias.name for alias in node.names}
            self.assertEqual([alias.asname for alias in node.names], [None] * len(node.names), place)
            if not node.module.startswith("farword."):
                self.assertLessEqual(names, LIBRARY.get(node.module, set()), place)

    def test_imported_names_are_defined_where_they_come_from(self):
        for place, node in self.nodes(ast.ImportFrom):
            if node.module.startswith("farword."):
                tree = self.trees[f"{node.module.split('.')[1]}.py"]
                defined = {part.name for part in tree.body if isinstance(part, (ast.FunctionDef, ast.ClassDef))}
                defined |= {part.targets[0].id for part in tree.body if isinstance(part, ast.Assign)}
                self.assertLessEqual({alias.name for alias in node.names}, defined, place)

    def test_files_do_not_import_from_each_other(self):
        wanted = {name: {node.module.split(".")[1] + ".py" for node in tree.body
                         if isinstance(node, ast.ImportFrom) and node.module.startswith("farword.")}
                  for name, tree in self.trees.items()}
        while wanted:
            free = [name for name, needed in wanted.items() if not needed & set(wanted)]
            self.assertNotEqual(free, [], wanted)
            for name in free:
                del wanted[name]

    def test_imports_are_used(self):
        for name, tree in self.trees.items():
            used = {node.id for node in ast.walk(tree) if isinstance(node, ast.Name)}
            for node in tree.body:
                if isinstance(node, ast.ImportFrom):
                    self.assertLessEqual({alias.name for alias in node.names}, used, name)

    def test_module_level(self):
        for name, tree in self.trees.items():
            seen = set()
            for node in tree.body:
                if isinstance(node, ast.Assign):
                    self.assertEqual(len(node.targets), 1, name)
                    ast.literal_eval(node.value)
                    self.assertNotIn(node.targets[0].id, seen, name)
                    seen.add(node.targets[0].id)
                elif not (isinstance(node, ast.Expr) and isinstance(node.value, ast.Constant)):
                    self.assertIsInstance(node, (ast.ImportFrom, ast.FunctionDef, ast.ClassDef), name)

    def test_statements(self):
        for place, node in self.nodes(ast.stmt):
            self.assertIsInstance(node, STATEMENTS, place)
        for place, node in self.nodes(ast.FunctionDef, ast.ClassDef):
            decorators = [ast.unparse(decorator) for decorator in node.decorator_list]
            self.assertIn(decorators, ([], ["property"]), place)

    def test_expressions(self):
        for place, node in self.nodes(ast.Div, ast.NamedExpr, ast.Yield, ast.YieldFrom, ast.Await,
                                      ast.GeneratorExp, ast.Pow, ast.MatMult):
            self.fail(f"{place}: {type(node).__name__}")
        for place, node in self.nodes(ast.Constant):
            self.assertNotIsInstance(node.value, (float, bytes, complex), place)

    def test_builtins(self):
        for place, node in self.nodes(ast.Name):
            if isinstance(node.ctx, ast.Load) and hasattr(builtins, node.id):
                self.assertIn(node.id, BUILTINS, place)

    def test_names(self):
        for name, tree in self.trees.items():
            own = {node.name for node in ast.walk(tree) if isinstance(node, (ast.FunctionDef, ast.ClassDef))}
            imported = {alias.name for node in tree.body if isinstance(node, ast.ImportFrom) for alias in node.names}
            classes = {node.name for node in tree.body if isinstance(node, ast.ClassDef)}
            functions = {node.name for node in tree.body if isinstance(node, ast.FunctionDef)}
            for word in bound_names(tree):
                self.assertFalse(hasattr(builtins, word), f"{name}: {word}")
                self.assertNotIn(word, imported | classes | functions | BARRED_NAMES, name)
            for word in own - DOUBLE:
                self.assertNotIn(word, BARRED_NAMES, name)
                self.assertFalse(word.startswith("__"), f"{name}: {word}")
                self.assertFalse(hasattr(builtins, word), f"{name}: {word}")

    def test_names_of_methods_and_attributes(self):
        known = set(METHODS)
        properties, methods = set(), set()
        for _, node in self.nodes(ast.ClassDef):
            for part in node.body:
                if isinstance(part, ast.FunctionDef):
                    (properties if part.decorator_list else methods).add(part.name)
        for _, node in self.nodes(ast.Attribute):
            if isinstance(node.ctx, ast.Store):
                known.add(node.attr)
        self.assertEqual(properties & methods, set())
        for place, node in self.nodes(ast.Attribute):
            self.assertIn(node.attr, known | properties | methods, place)

    def test_attributes_are_no_methods_of_their_class(self):
        for place, node in self.nodes(ast.ClassDef):
            names = [part.name for part in node.body if isinstance(part, ast.FunctionDef)]
            self.assertEqual(len(names), len(set(names)), place)
            stored = {part.attr for part in ast.walk(node) if isinstance(part, ast.Attribute)
                      and isinstance(part.ctx, ast.Store)}
            self.assertEqual(stored & set(names), set(), place)

    def test_strings(self):
        for name, tree in self.trees.items():
            known = docstrings(tree)
            for node in ast.walk(tree):
                if isinstance(node, ast.Constant) and isinstance(node.value, str) and id(node) not in known:
                    self.assertNotIn("%", node.value, name)
                    self.assertIsNone(BARRED_WORDS.search(node.value), name)
                    self.assertFalse("__" in node.value, name)
            attributes = [node.attr for node in ast.walk(tree) if isinstance(node, ast.Attribute)]
            for word in [*bound_names(tree), *attributes]:
                self.assertIsNone(BARRED_WORDS.search(word), name)

    def test_identity_is_asked_of_none_alone(self):
        for place, node in self.nodes(ast.Compare):
            for sign, other in zip(node.ops, node.comparators):
                if isinstance(sign, (ast.Is, ast.IsNot)):
                    self.assertIsInstance(other, ast.Constant, place)

    def test_sets_stay_in_their_functions(self):
        for place, node in self.nodes(ast.For, ast.comprehension):
            made = isinstance(node.iter, ast.Call) and ast.unparse(node.iter.func) == "set"
            self.assertFalse(made or isinstance(node.iter, (ast.Set, ast.SetComp)), place)


if __name__ == "__main__":
    unittest.main()
