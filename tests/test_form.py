"""The plainest rules of the language, and the interface's names and arguments, for the files that there are."""

import ast
import builtins
import pathlib
import re
import unittest

FOLDER = pathlib.Path(__file__).resolve().parent.parent / "tracklay"
FILES = sorted(path for path in FOLDER.rglob("*") if path.is_file() and "__pycache__" not in path.parts)

# File: function: arguments, with what stands behind =.
INTERFACE = {
    "nets.py": {"look": "netlist", "nets": "netlist", "order": "netlist", "net_text": "netlist", "net_of": "text"},
    "meaning.py": {"begun": "netlist", "cycle": "netlist, held, row", "run": "netlist, rows, held=None"},
    "trim.py": {"trimmed": "netlist"},
    "alike.py": {"alike": "one, other", "closed": "one, other, table", "parts": "one, other, rows"},
    "places.py": {
        "loads": "netlist, placing",
        "placed": "netlist, slots, tracks, pegs",
        "least_tracks": "netlist, slots, pegs",
        "keeps": "netlist, placing, slots, tracks, pegs",
        "bars": "netlist, slots, tracks, pegs, family",
    },
}

ALLOWED = set("""len range enumerate zip min max sum abs sorted reversed int str bool bytes list tuple dict set
frozenset isinstance ord repr any all divmod iter next super property staticmethod classmethod Exception ValueError
TypeError KeyError IndexError LookupError ZeroDivisionError ArithmeticError OverflowError RuntimeError
NotImplementedError AttributeError StopIteration NotImplemented""".split())

BARRED_NAMES = set("""register mro elements open input law version_info with_traceback add_note format format_map
attrgetter breakpoint compile copyright credits delattr dir eval exec exit gc getattr globals hasattr help id
importlib license locals methodcaller os quit setattr vars""".split())

BARRED_WORDS = set("""type typing typing_extensions enum Enum IntEnum StrEnum Flag IntFlag Generic Protocol ABC ABCMeta
namedtuple NamedTuple TypedDict TYPE_CHECKING abstractmethod""".split())

BARRED_NODES = (ast.Global, ast.AsyncFunctionDef, ast.AsyncFor, ast.AsyncWith, ast.Await, ast.Import, ast.Div,
                ast.MatMult)


def trees():
    return [(path, ast.parse(path.read_text())) for path in FILES]


def names_in(tree):
    """All names that a tree uses or binds, with their nodes."""
    for node in ast.walk(tree):
        if isinstance(node, ast.Name):
            yield node, node.id
        elif isinstance(node, ast.Attribute):
            yield node, node.attr
        elif isinstance(node, ast.arg):
            yield node, node.arg
        elif isinstance(node, (ast.FunctionDef, ast.ClassDef)):
            yield node, node.name
        elif isinstance(node, ast.keyword) and node.arg:
            yield node.value, node.arg


class Form(unittest.TestCase):
    def test_files(self):
        self.assertIn("__init__.py", [path.name for path in FILES])
        for path in FILES:
            self.assertRegex(path.name, r"\A[a-z0-9_]+\.py\Z")
            self.assertNotRegex(path.name, r"\Atest")

    def test_signs_and_words(self):
        for path in FILES:
            text = path.read_text()
            with self.subTest(path.name):
                self.assertRegex(text, r"\A[ -~\n]*\Z")
                self.assertFalse(BARRED_WORDS & set(re.findall(r"\w+", text)))
                self.assertNotRegex(text, "dataclass|overload|contextmanager")

    def test_sizes(self):
        for path, tree in trees():
            lines = path.read_text().split("\n")
            self.assertLess(len(lines), 400, path.name)
            self.assertLessEqual(max(len(line) for line in lines), 120, path.name)
            for node in ast.walk(tree):
                if isinstance(node, ast.FunctionDef):
                    self.assertLessEqual(node.end_lineno - node.lineno + 1, 40, (path.name, node.name))

    def test_imports(self):
        for path, tree in trees():
            for node in ast.walk(tree):
                if isinstance(node, ast.ImportFrom):
                    with self.subTest(path.name, line=node.lineno):
                        self.assertEqual(node.level, 0)
                        self.assertRegex(node.module, r"\Atracklay\.[a-z]+\Z")
                        self.assertIn(node, tree.body)
                        source = ast.parse((FOLDER / (node.module.split(".")[1] + ".py")).read_text())
                        bound = {part.name for part in source.body if isinstance(part, (ast.FunctionDef, ast.ClassDef))}
                        bound |= {part.targets[0].id for part in source.body if isinstance(part, ast.Assign)}
                        self.assertLessEqual({part.name for part in node.names}, bound)

    def test_module_level(self):
        plain = (ast.ImportFrom, ast.FunctionDef, ast.ClassDef, ast.Assign)
        for path, tree in trees():
            self.assertTrue(ast.get_docstring(tree), path.name)
            for node in tree.body[1:]:
                self.assertIsInstance(node, plain, (path.name, node.lineno))

    def test_names(self):
        for path, tree in trees():
            for node, name in names_in(tree):
                with self.subTest(path.name, line=node.lineno, name=name):
                    self.assertNotIn(name, BARRED_NAMES)
                    self.assertTrue(name == "__init__" or not name.startswith("_"))
                    if isinstance(node, ast.Name) and hasattr(builtins, name):
                        self.assertIn(name, ALLOWED)
                        self.assertIsInstance(node.ctx, ast.Load)

    def test_statements_and_values(self):
        for path, tree in trees():
            for node in ast.walk(tree):
                with self.subTest(path.name, line=getattr(node, "lineno", 0)):
                    self.assertNotIsInstance(node, BARRED_NODES)
                    if isinstance(node, ast.Constant):
                        self.assertNotIsInstance(node.value, (float, complex))
                        self.assertNotIn("%", str(node.value))
                    if isinstance(node, ast.Compare) and isinstance(node.ops[0], (ast.Is, ast.IsNot)):
                        self.assertIsInstance(node.comparators[0], ast.Constant)


class Interface(unittest.TestCase):
    def test_functions(self):
        for name, functions in INTERFACE.items():
            tree = ast.parse((FOLDER / name).read_text())
            found = {node.name: ast.unparse(node.args) for node in tree.body if isinstance(node, ast.FunctionDef)}
            for function, arguments in functions.items():
                self.assertEqual(found.get(function), arguments, (name, function))


if __name__ == "__main__":
    unittest.main()
