"""Whether the package keeps to the form that LANGUAGE.md tells, as far as a walk through it shows."""

import ast
import builtins
import pathlib
import re
import unittest

PACKAGE = pathlib.Path(__file__).resolve().parent.parent / "hangstill"
FILES = sorted(PACKAGE.rglob("*.py"))

# L6 and L7.
NODES = """Module FunctionDef ClassDef arguments arg Return Assign AugAssign For While If Raise Try ExceptHandler
ImportFrom alias Expr Pass Break Continue BoolOp And Or BinOp Add Sub Mult FloorDiv Mod Pow BitAnd BitOr BitXor LShift
RShift UnaryOp Not USub UAdd Invert Lambda IfExp Dict List Tuple ListComp comprehension Compare Eq NotEq Lt LtE Gt GtE
Is IsNot In NotIn Call keyword JoinedStr FormattedValue Constant Attribute Subscript Slice Name Load Store""".split()

# L8.
BUILTINS = """len range enumerate zip min max sum abs sorted reversed int str bool list tuple dict set frozenset
isinstance ord repr any all divmod Exception ValueError TypeError KeyError IndexError LookupError ZeroDivisionError
ArithmeticError OverflowError RuntimeError NotImplementedError AttributeError StopIteration""".split()

# L25.
METHODS = """append clear copy count endswith extend find get index insert isalnum isalpha isdigit islower isspace
isupper items join keys ljust lower lstrip partition pop remove replace reverse rfind rjust rpartition rsplit rstrip
setdefault split splitlines startswith strip update upper values zfill bit_length __init__""".split()

# L17.
WORDS = """type typing typing_extensions enum Enum IntEnum StrEnum Flag IntFlag Generic Protocol ABC ABCMeta namedtuple
NamedTuple TypedDict TYPE_CHECKING abstractmethod""".split()


# L23.
WALKED = "zip enumerate reversed range items keys values".split()
WALKERS = "list tuple dict sorted sum any all enumerate zip min max".split()


def bound_names(tree):
    """Every name that a file gives a meaning to, but by its imports."""
    told = []
    for node in ast.walk(tree):
        if isinstance(node, (ast.FunctionDef, ast.ClassDef)):
            told.append(node.name)
        if isinstance(node, ast.arg):
            told.append(node.arg)
        if isinstance(node, ast.Name) and isinstance(node.ctx, ast.Store):
            told.append(node.id)
        if isinstance(node, ast.ExceptHandler) and node.name:
            told.append(node.name)
    return told


def top_names(tree):
    told = []
    for node in tree.body:
        if isinstance(node, (ast.FunctionDef, ast.ClassDef)):
            told.append(node.name)
        if isinstance(node, ast.Assign):
            told.extend([target.id for target in node.targets])
    return told


def imported(tree):
    return [(node.module, part.name) for node in tree.body if isinstance(node, ast.ImportFrom) for part in node.names]


def own_methods():
    told = []
    for file in FILES:
        for node in ast.walk(ast.parse(file.read_text())):
            if isinstance(node, ast.ClassDef):
                told.extend([part.name for part in node.body if isinstance(part, ast.FunctionDef)])
    return told


class Language(unittest.TestCase):
    def each(self):
        for file in FILES:
            text = file.read_text(encoding="utf-8")
            yield file, text, ast.parse(text)

    def test_files(self):
        self.assertIn("__init__.py", [file.name for file in FILES])
        for path in PACKAGE.rglob("*"):
            if "__pycache__" not in path.parts:
                self.assertRegex(path.name, r"^(__init__|__main__|[a-z][a-z0-9_]*)\.py$")

    def test_signs_and_sizes(self):
        for file, text, tree in self.each():
            self.assertRegex(text, r"\A[ -~\n]*\Z")
            self.assertLessEqual(len(text.splitlines()), 400)
            self.assertLessEqual(max(len(line) for line in text.splitlines()), 120)
            for node in ast.walk(tree):
                if isinstance(node, ast.FunctionDef):
                    self.assertLessEqual(node.end_lineno - node.lineno + 1, 40, node.name)

    def test_words(self):
        for file, text, tree in self.each():
            for word in WORDS:
                self.assertIsNone(re.search(rf"\b{word}\b", text), word)
            self.assertIsNone(re.search("dataclass|overload|contextmanager", text))

    def test_imports(self):
        drawn = {}
        for file, text, tree in self.each():
            drawn[file.stem] = []
            for module, name in imported(tree):
                self.assertRegex(module, r"^hangstill\.[a-z]+$")
                stem = module.partition(".")[2]
                self.assertIn(name, top_names(ast.parse((PACKAGE / f"{stem}.py").read_text())))
                drawn[file.stem].append(stem)
            for node in ast.walk(tree):
                if isinstance(node, ast.ImportFrom):
                    self.assertIn(node, tree.body)
                    self.assertEqual([part.asname for part in node.names if part.asname], [])
                    self.assertEqual(node.level, 0)
        left = dict(drawn)
        while left:
            free = [stem for stem in left if not set(left[stem]) & set(left)]
            self.assertTrue(free, "files draw from one another")
            left = {stem: left[stem] for stem in left if stem not in free}

    def test_what_is_written(self):
        for file, text, tree in self.each():
            for node in ast.walk(tree):
                self.assertIn(node.__class__.__name__, NODES, getattr(node, "lineno", 0))
                if isinstance(node, ast.Constant):
                    self.assertIsInstance(node.value, (int, str, bool, type(None)))
                if isinstance(node, ast.Constant) and isinstance(node.value, str):
                    self.assertNotIn(chr(37), node.value)
                if isinstance(node, ast.Assign):
                    self.assertEqual(len(node.targets), 1)
                if isinstance(node, (ast.For, ast.While)):
                    self.assertEqual(node.orelse, [])
                if isinstance(node, ast.ListComp):
                    self.assertEqual(len(node.generators), 1)
                    self.assertLessEqual(len(node.generators[0].ifs), 1)
                if isinstance(node, ast.FunctionDef):
                    self.assertFalse(node.args.vararg or node.args.kwarg or node.args.kwonlyargs or node.decorator_list)
                if isinstance(node, ast.Compare):
                    self.beside_is(node)
                if isinstance(node, ast.FormattedValue):
                    self.assertIsInstance(node.value, ast.Name)
                    self.assertIsNone(node.format_spec)
                if isinstance(node, ast.Expr) and node not in tree.body[:1]:
                    self.assertIsInstance(node.value, ast.Call)

    def beside_is(self, node):
        for sign, part in zip(node.ops, node.comparators):
            if isinstance(sign, (ast.Is, ast.IsNot)):
                self.assertIsInstance(part, ast.Constant)
                self.assertIn(part.value, (None, True, False))

    def test_the_top_of_a_file(self):
        for file, text, tree in self.each():
            self.assertTrue(ast.get_docstring(tree))
            self.assertEqual(len(top_names(tree)), len(set(top_names(tree))))
            for node in tree.body[1:]:
                self.assertIsInstance(node, (ast.ImportFrom, ast.FunctionDef, ast.ClassDef, ast.Assign))

    def test_names(self):
        for file, text, tree in self.each():
            above = [name for module, name in imported(tree)]
            for name in bound_names(tree):
                self.assertRegex(name, r"^([A-Za-z][A-Za-z0-9_]*|__init__)$")
                self.assertNotIn(name, dir(builtins))
                self.assertNotIn(name, above)
            known = bound_names(tree) + above + BUILTINS
            for node in ast.walk(tree):
                if isinstance(node, ast.Name):
                    self.assertIn(node.id, known)

    def test_classes(self):
        for file, text, tree in self.each():
            for node in ast.walk(tree):
                if isinstance(node, ast.ClassDef):
                    self.assertIn(node, tree.body)
                    self.assertLessEqual(len(node.bases), 1)
                    self.assertFalse(node.keywords or node.decorator_list)
                    for part in node.body:
                        self.assertIsInstance(part, (ast.FunctionDef, ast.Pass))
                    methods = [part.name for part in node.body if isinstance(part, ast.FunctionDef)]
                    self.assertEqual(len(methods), len(set(methods)))

    def test_own_methods_and_values(self):
        values = []
        for file, text, tree in self.each():
            for node in ast.walk(tree):
                if isinstance(node, ast.Attribute) and isinstance(node.ctx, ast.Store):
                    self.assertEqual(ast.unparse(node.value), "self")
                    values.append(node.attr)
        self.assertEqual(set(values) & set(own_methods()), set())
        # Names that no value of Python's own has, so that each call or value shows whose it is.
        for name in values + [name for name in own_methods() if name != "__init__"]:
            for value in ("", 0, [], {}, set(), b"", ()):
                self.assertFalse(hasattr(value, name), name)

    def test_walked_at_once(self):
        for file, text, tree in self.each():
            walked = []
            for node in ast.walk(tree):
                if isinstance(node, (ast.For, ast.comprehension)):
                    walked.append(node.iter)
                if isinstance(node, ast.Call) and isinstance(node.func, ast.Name) and node.func.id in WALKERS:
                    walked.extend(node.args)
            for node in ast.walk(tree):
                if isinstance(node, ast.Call) and ast.unparse(node.func).rpartition(".")[2] in WALKED:
                    self.assertIn(node, walked)

    def test_methods(self):
        free = METHODS + own_methods()
        for file, text, tree in self.each():
            for node in ast.walk(tree):
                if isinstance(node, ast.Call) and isinstance(node.func, ast.Attribute):
                    self.assertIn(node.func.attr, free)

    def test_sets_are_not_kept(self):
        for file, text, tree in self.each():
            inside = [node.args[0] for node in ast.walk(tree) if isinstance(node, ast.Call)
                      and isinstance(node.func, ast.Name) and node.func.id in ("sorted", "len") and node.args]
            for node in ast.walk(tree):
                if isinstance(node, ast.Call) and isinstance(node.func, ast.Name):
                    if node.func.id in ("set", "frozenset"):
                        self.assertIn(node, inside)


if __name__ == "__main__":
    unittest.main()
