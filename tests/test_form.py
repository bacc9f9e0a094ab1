"""The plainest rules of the language, and the interface's names and arguments, for the files that there are."""

import ast
import builtins
import pathlib
import re
import unittest

FOLDER = pathlib.Path(__file__).resolve().parent.parent / "tracklay"
FILES = sorted(path for path in FOLDER.rglob("*") if path.is_file() and "__pycache__" not in path.parts)

# File: function: arguments, with what stands behind =.
INTERFACE = {
    "nets.py": {"look": "netlist", "nets": "netlist", "order": "netlist", "net_text": "netlist", "net_of": "text"},
    "meaning.py": {"begun": "netlist", "cycle": "netlist, held, row", "run": "netlist, rows, held=None"},
    "trim.py": {"trimmed": "netlist"},
    "alike.py": {"alike": "one, other", "closed": "one, other, table", "parts": "one, other, rows"},
    "places.py": {
        "loads": "netlist, placing",
        "placed": "netlist, slots, tracks, pegs",
        "least_tracks": "netlist, slots, pegs",
        "keeps": "netlist, placing, slots, tracks, pegs",
        "bars": "netlist, slots, tracks, pegs, family",
    },
    "tracks.py": {
        "spans": "netlist, placing",
        "routed": "netlist, placing, tracks",
        "delay": "netlist, placing",
        "arrival": "netlist, placing, name",
    },
    "image.py": {
        "image_of": "netlist, placing, routing, tracks",
        "sheet_of": "netlist, placing",
        "wires": "image, tracks",
        "read": "image, tracks, sheet",
        "in_order": "netlist, names",
        "patch": "old, new",
        "patched": "image, some",
    },
    "rows.py": {"deed_text": "deed", "deed_of": "text"},
    "pages.py": {"page": "bench", "bench_of": "text"},
}

# File: class: methods with their arguments behind self.
CLASSES = {
    "fabric.py": {"Fabric": {
        "__init__": "image, tracks", "cycle": "row", "held": "", "hold": "bits", "lay": "some", "image": "", "twin": "",
        "__len__": "", "__str__": "", "__repr__": "", "__eq__": "other",
    }},
    "bench.py": {"Bench": {
        "__init__": "slots, tracks=3", "entry": "name", "gate": "name, bits, pins", "keeper": "name, bits, pin",
        "output": "name, pin", "bits": "name, bits", "wire": "name, at, source", "drop": "name", "peg": "name, slot",
        "unpeg": "name", "lay": "", "cycle": "row=''", "deed": "row", "back": "", "again": "", "deeds": "",
        "twin": "", "netlist": "", "pegs": "", "laid": "", "image": "", "sheet": "", "held": "", "delay": "",
        "change": "", "least": "", "stale": "", "__len__": "", "__str__": "", "__repr__": "", "__eq__": "other",
    }},
    "desk.py": {"Desk": {
        "__init__": "", "open_one": "name, slots, tracks=3", "read": "name, text", "copy_one": "name, other",
        "close": "name", "names": "", "view": "name", "page": "name", "deed": "name, row", "back": "name",
        "again": "name", "say": "line", "__len__": "",
    }},
}

ALLOWED_SPECIAL = ("__init__", "__len__", "__str__", "__repr__", "__eq__")

# The methods of builtin values that the package may call, as far as it needs some.
BUILTIN_METHODS = set("""append bit_length count get index join ljust pop split extend""".split())

ALLOWED = set("""len range enumerate zip min max sum abs sorted reversed int str bool bytes list tuple dict set
frozenset isinstance ord repr any all divmod iter next super property staticmethod classmethod Exception ValueError
TypeError KeyError IndexError LookupError ZeroDivisionError ArithmeticError OverflowError RuntimeError
NotImplementedError AttributeError StopIteration NotImplemented""".split())

BARRED_NAMES = set("""register mro elements open input law version_info with_traceback add_note format format_map
attrgetter breakpoint compile copyright credits delattr dir eval exec exit gc getattr globals hasattr help id
importlib license locals methodcaller os quit setattr vars""".split())

BARRED_WORDS = set("""type typing typing_extensions enum Enum IntEnum StrEnum Flag IntFlag Generic Protocol ABC ABCMeta
namedtuple NamedTuple TypedDict TYPE_CHECKING abstractmethod""".split())

BARRED_NODES = (ast.Global, ast.AsyncFunctionDef, ast.AsyncFor, ast.AsyncWith, ast.Await, ast.Import, ast.Div,
                ast.MatMult)


def trees():
    return [(path, ast.parse(path.read_text())) for path in FILES]


def names_in(tree):
    """All names that a tree uses or binds, with their nodes."""
    for node in ast.walk(tree):
        if isinstance(node, ast.Name):
            yield node, node.id
        elif isinstance(node, ast.Attribute):
            yield node, node.attr
        elif isinstance(node, ast.arg):
            yield node, node.arg
        elif isinstance(node, (ast.FunctionDef, ast.ClassDef)):
            yield node, node.name
        elif isinstance(node, ast.keyword) and node.arg:
            yield node.value, node.arg


class Form(unittest.TestCase):
    def test_files(self):
        self.assertIn("__init__.py", [path.name for path in FILES])
        for path in FILES:
            self.assertRegex(path.name, r"\A[a-z0-9_]+\.py\Z")
            self.assertNotRegex(path.name, r"\Atest")

    def test_signs_and_words(self):
        for path in FILES:
            text = path.read_text()
            with self.subTest(path.name):
                self.assertRegex(text, r"\A[ -~\n]*\Z")
                self.assertFalse(BARRED_WORDS & set(re.findall(r"\w+", text)))
                self.assertNotRegex(text, "dataclass|overload|contextmanager")

    def test_sizes(self):
        for path, tree in trees():
            lines = path.read_text().split("\n")
            self.assertLess(len(lines), 400, path.name)
            self.assertLessEqual(max(len(line) for line in lines), 120, path.name)
            for node in ast.walk(tree):
                if isinstance(node, ast.FunctionDef):
                    self.assertLessEqual(node.end_lineno - node.lineno + 1, 40, (path.name, node.name))

    def test_imports(self):
        for path, tree in trees():
            for node in ast.walk(tree):
                if isinstance(node, ast.ImportFrom):
                    with self.subTest(path.name, line=node.lineno):
                        self.assertEqual(node.level, 0)
                        self.assertRegex(node.module, r"\Atracklay\.[a-z]+\Z")
                        self.assertIn(node, tree.body)
                        source = ast.parse((FOLDER / (node.module.split(".")[1] + ".py")).read_text())
                        bound = {part.name for part in source.body if isinstance(part, (ast.FunctionDef, ast.ClassDef))}
                        bound |= {part.targets[0].id for part in source.body if isinstance(part, ast.Assign)}
                        self.assertLessEqual({part.name for part in node.names}, bound)

    def test_module_level(self):
        plain = (ast.ImportFrom, ast.FunctionDef, ast.ClassDef, ast.Assign)
        for path, tree in trees():
            self.assertTrue(ast.get_docstring(tree), path.name)
            for node in tree.body[1:]:
                self.assertIsInstance(node, plain, (path.name, node.lineno))

    def test_names(self):
        for path, tree in trees():
            for node, name in names_in(tree):
                with self.subTest(path.name, line=node.lineno, name=name):
                    self.assertNotIn(name, BARRED_NAMES)
                    self.assertTrue(name in ALLOWED_SPECIAL or not name.startswith("_"))
                    if isinstance(node, ast.Name) and hasattr(builtins, name):
                        self.assertIn(name, ALLOWED)
                        self.assertIsInstance(node.ctx, ast.Load)

    def test_statements_and_values(self):
        for path, tree in trees():
            for node in ast.walk(tree):
                with self.subTest(path.name, line=getattr(node, "lineno", 0)):
                    self.assertNotIsInstance(node, BARRED_NODES)
                    if isinstance(node, ast.Constant):
                        self.assertNotIsInstance(node.value, (float, complex))
                        self.assertNotIn("%", str(node.value))
                    if isinstance(node, ast.Compare) and isinstance(node.ops[0], (ast.Is, ast.IsNot)):
                        self.assertIsInstance(node.comparators[0], ast.Constant)


def bound_in(function):
    """All names that a function binds: its parameters, targets, nested functions and caught errors."""
    for node in ast.walk(function):
        if isinstance(node, ast.arg):
            yield node.arg
        elif isinstance(node, ast.Name) and not isinstance(node.ctx, ast.Load):
            yield node.id
        elif isinstance(node, ast.FunctionDef) and node is not function:
            yield node.name
        elif isinstance(node, ast.ExceptHandler) and node.name:
            yield node.name


def classes_in(tree):
    return [node for node in tree.body if isinstance(node, ast.ClassDef)]


def methods_in(cls):
    return [node for node in cls.body if isinstance(node, ast.FunctionDef)]


def imports_of(tree):
    return [node.module.split(".")[1] for node in tree.body if isinstance(node, ast.ImportFrom)]


class Deeper(unittest.TestCase):
    def test_no_file_is_come_to_from_itself_along_imports(self):
        reads = {path.stem: set(imports_of(tree)) for path, tree in trees()}
        for start in reads:
            seen, fresh = set(), {start}
            while fresh:
                fresh = {other for name in fresh for other in reads[name]} - seen
                seen |= fresh
            self.assertNotIn(start, seen)

    def test_each_name_is_bound_once_at_module_level(self):
        for path, tree in trees():
            names = []
            for node in tree.body:
                if isinstance(node, ast.ImportFrom):
                    names += [part.asname or part.name for part in node.names]
                elif isinstance(node, (ast.FunctionDef, ast.ClassDef)):
                    names.append(node.name)
                elif isinstance(node, ast.Assign):
                    names += [target.id for target in node.targets]
            self.assertEqual(sorted(names), sorted(set(names)), path.name)
            self.assertFalse([name for name in names if hasattr(builtins, name)], path.name)

    def test_no_local_name_is_that_of_a_class_an_import_or_a_builtin(self):
        for path, tree in trees():
            barred = {part.asname or part.name for node in tree.body if isinstance(node, ast.ImportFrom)
                      for part in node.names} | {cls.name for cls in classes_in(tree)}
            for node in ast.walk(tree):
                if isinstance(node, ast.FunctionDef):
                    bound = set(bound_in(node))
                    self.assertFalse(bound & barred, (path.name, node.name))
                    self.assertFalse([name for name in bound if hasattr(builtins, name)], (path.name, node.name))

    def test_all_that_is_imported_is_used(self):
        for path, tree in trees():
            used = {node.id for node in ast.walk(tree) if isinstance(node, ast.Name)}
            for node in tree.body:
                if isinstance(node, ast.ImportFrom):
                    self.assertLessEqual({part.asname or part.name for part in node.names}, used, path.name)

    def test_no_name_is_a_method_and_an_attribute(self):
        methods = {method.name for path, tree in trees() for cls in classes_in(tree) for method in methods_in(cls)}
        attributes, read = set(), set()
        for path, tree in trees():
            called = {node.func for node in ast.walk(tree) if isinstance(node, ast.Call)}
            for node in ast.walk(tree):
                if isinstance(node, ast.Attribute):
                    if isinstance(node.ctx, ast.Store):
                        attributes.add(node.attr)
                    elif node in called:
                        self.assertIn(node.attr, methods | BUILTIN_METHODS, (path.name, node.lineno))
                    else:
                        read.add(node.attr)
        self.assertFalse(methods & attributes)
        self.assertLessEqual(read, attributes)

    def test_no_generators_and_no_sorting_in_place(self):
        for path, tree in trees():
            for node in ast.walk(tree):
                self.assertNotIsInstance(node, (ast.GeneratorExp, ast.Yield, ast.YieldFrom, ast.Lambda), path.name)

    def test_double_underscore_methods(self):
        for path, tree in trees():
            for cls in classes_in(tree):
                for method in methods_in(cls):
                    told = [node.value for node in ast.walk(method) if isinstance(node, ast.Return)]
                    stored = [node for node in ast.walk(method)
                              if isinstance(node, (ast.Name, ast.Attribute)) and isinstance(node.ctx, ast.Store)]
                    if method.name == "__init__":
                        self.assertEqual(told, [])
                    elif method.name.startswith("__"):
                        self.assertEqual(stored, [])
                        self.assertIsInstance(method.body[-1], ast.Return)
                    if method.name == "__len__":
                        self.assertEqual({node.func.id for node in told}, {"len"})
                    if method.name in ("__str__", "__repr__"):
                        for node in told:
                            is_join = isinstance(node, ast.Call) and isinstance(node.func.value, ast.Constant)
                            self.assertTrue(isinstance(node, ast.JoinedStr) or is_join)

    def test_only_own_errors_are_caught(self):
        source = ast.parse((FOLDER / "errors.py").read_text())
        own = {cls.name for cls in classes_in(source)}
        for path, tree in trees():
            for node in ast.walk(tree):
                if isinstance(node, ast.ExceptHandler):
                    named = node.type.elts if isinstance(node.type, ast.Tuple) else [node.type]
                    self.assertLessEqual({name.id for name in named}, own, path.name)
                if isinstance(node, ast.Raise):
                    self.assertIn(node.exc.func.id, own, path.name)


class Interface(unittest.TestCase):
    def test_functions(self):
        for name, functions in INTERFACE.items():
            tree = ast.parse((FOLDER / name).read_text())
            found = {node.name: ast.unparse(node.args) for node in tree.body if isinstance(node, ast.FunctionDef)}
            for function, arguments in functions.items():
                self.assertEqual(found.get(function), arguments, (name, function))

    def test_classes(self):
        for name, classes in CLASSES.items():
            found = {cls.name: cls for cls in classes_in(ast.parse((FOLDER / name).read_text()))}
            for cls, methods in classes.items():
                there = {node.name: ast.unparse(node.args) for node in methods_in(found[cls])}
                for method, arguments in methods.items():
                    wanted = ", ".join(["self"] + ([arguments] if arguments else []))
                    self.assertEqual(there.get(method), wanted, (name, method))


if __name__ == "__main__":
    unittest.main()
