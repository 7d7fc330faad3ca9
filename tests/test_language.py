"""The package keeps to its part of Python: what can be seen of LANGUAGE.md's rules in a file's tree and text."""

import ast
import builtins
import pathlib
import re
import unittest

PACKAGE = pathlib.Path(__file__).resolve().parent.parent / "pastcells"
FILES = sorted(PACKAGE.rglob("*.py"))

ALLOWED_NODES = tuple(getattr(ast, name) for name in """
    Module Expr Constant ImportFrom alias FunctionDef arguments arg ClassDef Lambda
    Assign AugAssign If While For Return Break Continue Pass Raise Try ExceptHandler
    BinOp UnaryOp BoolOp Compare IfExp Call keyword Attribute Subscript Slice Name List Tuple Dict
    ListComp comprehension JoinedStr FormattedValue Set
    operator unaryop boolop cmpop expr_context""".split())
FORBIDDEN_NODES = (ast.Div, ast.MatMult)
BUILTINS = """len range enumerate zip min max sum abs sorted reversed int str bool list tuple dict set frozenset
    isinstance ord repr any all divmod Exception ValueError KeyError IndexError LookupError ZeroDivisionError
    ArithmeticError OverflowError RuntimeError NotImplementedError StopIteration""".split()
METHODS = """append clear copy count endswith extend find get index insert isalnum isalpha isdigit islower isspace isupper
    items join keys ljust lower lstrip partition pop remove replace reverse rfind rjust rpartition rsplit rstrip
    setdefault split splitlines startswith strip update upper values zfill bit_length""".split()
UNUSED = """register mro elements open input version_info with_traceback add_note format format_map args encode
    attrgetter breakpoint builtins compile copyright credits delattr dir eval exec exit gc getattr globals hasattr help
    id importlib license locals methodcaller os quit setattr super type vars sys __name__ chr print""".split()
WORDS = r"""\b(type|typing|typing_extensions|enum|Enum|IntEnum|StrEnum|Flag|IntFlag|Generic|Protocol|ABC|ABCMeta|
    namedtuple|NamedTuple|TypedDict|TYPE_CHECKING|abstractmethod)\b|dataclass|overload|contextmanager"""
METHODS_IN_TWO_UNDERSCORES = ("__init__", "__eq__", "__repr__", "__str__", "__len__")


def trees():
    return [(path, ast.parse(path.read_text(encoding="utf-8"))) for path in FILES]


def nodes():
    return [(path.name, node) for path, tree in trees() for node in ast.walk(tree)]


def bound_names(tree):
    """All names that a file binds: by assignment, as a parameter, a def, a class, an import, an error."""
    for node in ast.walk(tree):
        if isinstance(node, ast.Name) and isinstance(node.ctx, ast.Store):
            yield node.id
        elif isinstance(node, ast.arg):
            yield node.arg
        elif isinstance(node, (ast.FunctionDef, ast.ClassDef)):
            yield node.name
        elif isinstance(node, ast.alias):
            yield node.asname or node.name
        elif isinstance(node, ast.ExceptHandler) and node.name:
            yield node.name


class Language(unittest.TestCase):
    def test_files(self):
        for path in PACKAGE.rglob("*"):
            if "__pycache__" not in path.parts:
                self.assertRegex(path.name, r"^[a-z][a-z0-9_]*\.py$|^__init__\.py$")
        self.assertTrue((PACKAGE / "watch.py").is_file())

    def test_signs_words_and_lengths(self):
        for path in FILES:
            text = path.read_text(encoding="utf-8")
            self.assertRegex(text, r"\A[ -~\n]*\Z", path.name)
            self.assertIsNone(re.search(WORDS, text, re.VERBOSE), path.name)
            lines = text.splitlines()
            self.assertLessEqual(len(lines), 400, path.name)
            self.assertLessEqual(max(len(line) for line in lines), 120, path.name)

    def test_length_of_functions(self):
        for name, node in nodes():
            if isinstance(node, ast.FunctionDef):
                self.assertLessEqual(node.end_lineno - node.lineno + 1, 40, (name, node.name))

    def test_kinds_of_nodes(self):
        for name, node in nodes():
            where = (name, ast.dump(node)[:200])
            self.assertIsInstance(node, ALLOWED_NODES, where)
            self.assertNotIsInstance(node, FORBIDDEN_NODES, where)
            if isinstance(node, ast.Constant):
                self.assertIsInstance(node.value, (int, str, type(None)), where)
                self.assertNotIn("%", str(node.value), where)
            if isinstance(node, ast.Assign):
                self.assertEqual(len(node.targets), 1, where)
            if isinstance(node, (ast.For, ast.While)):
                self.assertEqual(node.orelse, [], where)
            if isinstance(node, ast.Try):
                self.assertEqual(node.finalbody, [], where)
            if isinstance(node, ast.ListComp):
                self.assertEqual(len(node.generators), 1, where)
                self.assertLessEqual(len(node.generators[0].ifs), 1, where)

    def test_functions_and_classes(self):
        for name, node in nodes():
            if isinstance(node, ast.FunctionDef):
                given = node.args
                self.assertEqual([node.decorator_list, given.kwonlyargs, given.posonlyargs], [[], [], []], node.name)
                self.assertEqual([given.vararg, given.kwarg, node.returns], [None, None, None], node.name)
            if isinstance(node, ast.ClassDef):
                self.assertEqual([node.decorator_list, node.keywords], [[], []], node.name)
                self.assertLessEqual(len(node.bases), 1, node.name)
                for row in node.body:
                    self.assertIsInstance(row, ast.FunctionDef, node.name)

    def test_only_calls_stand_by_themselves(self):
        for path, tree in trees():
            for node in ast.walk(tree):
                if isinstance(node, ast.Expr) and node != tree.body[0]:
                    self.assertIsInstance(node.value, ast.Call, (path.name, node.lineno))

    def test_top_of_files(self):
        for path, tree in trees():
            bound = []
            for row in tree.body:
                is_docstring = isinstance(row, ast.Expr) and isinstance(row.value, ast.Constant)
                may_stand = (ast.ImportFrom, ast.FunctionDef, ast.ClassDef, ast.Assign)
                self.assertTrue(is_docstring or isinstance(row, may_stand), path.name)
                bound += [row.name] if isinstance(row, (ast.FunctionDef, ast.ClassDef)) else []
                bound += [row.targets[0].id] if isinstance(row, ast.Assign) else []
                bound += [part.name for part in row.names] if isinstance(row, ast.ImportFrom) else []
            self.assertEqual(len(bound), len(set(bound)), path.name)
            self.assertTrue(ast.get_docstring(tree), path.name)

    def test_imports(self):
        drawn = {}
        for path, tree in trees():
            drawn[path.stem] = []
            for node in ast.walk(tree):
                if isinstance(node, ast.ImportFrom):
                    self.assertIn(node, tree.body, path.name)
                    self.assertEqual(node.level, 0, path.name)
                    self.assertRegex(node.module, r"^pastcells\.[a-z]+$")
                    source = node.module.split(".")[1]
                    drawn[path.stem].append(source)
                    source_tree = ast.parse((PACKAGE / (source + ".py")).read_text(encoding="utf-8"))
                    defined = [row.name for row in source_tree.body if isinstance(row, (ast.FunctionDef, ast.ClassDef))]
                    defined += [row.targets[0].id for row in source_tree.body if isinstance(row, ast.Assign)]
                    for part in node.names:
                        self.assertIn(part.name, defined, path.name)
        while drawn:
            free = [stem for stem, sources in drawn.items() if not set(sources) & set(drawn)]
            self.assertTrue(free, drawn)
            drawn = {stem: sources for stem, sources in drawn.items() if stem not in free}

    def test_names(self):
        for path, tree in trees():
            at_top = [row.name for row in tree.body if isinstance(row, ast.ClassDef)]
            at_top += [part.name for row in tree.body if isinstance(row, ast.ImportFrom) for part in row.names]
            for name in bound_names(tree):
                if name not in METHODS_IN_TWO_UNDERSCORES:
                    self.assertRegex(name, r"^[A-Za-z][A-Za-z0-9_]*$", path.name)
                    self.assertFalse(hasattr(builtins, name), (path.name, name))
                    self.assertNotIn(name, UNUSED, path.name)
            for node in ast.walk(tree):
                local = isinstance(node, ast.Name) and isinstance(node.ctx, ast.Store) and node.id
                local = node.arg if isinstance(node, ast.arg) else local
                self.assertNotIn(local, at_top, path.name)

    def test_names_of_pythons_own(self):
        for path, tree in trees():
            own = set(bound_names(tree))
            for node in ast.walk(tree):
                if isinstance(node, ast.Name) and isinstance(node.ctx, ast.Load) and node.id not in own:
                    self.assertIn(node.id, BUILTINS, path.name)

    def test_methods_and_values(self):
        methods, values = set(), set()
        for name, node in nodes():
            if isinstance(node, ast.ClassDef):
                methods.update(row.name for row in node.body if isinstance(row, ast.FunctionDef))
            if isinstance(node, ast.Attribute) and isinstance(node.ctx, ast.Store):
                self.assertIsInstance(node.value, ast.Name)
                values.add(node.attr)
        pythons_own = set()
        for value in ("", 0, [], {}, set(), b"", ()):
            pythons_own.update(dir(value))
        self.assertEqual(methods & values, set())
        self.assertEqual((methods | values) & pythons_own - set(METHODS_IN_TWO_UNDERSCORES), set())
        for name, node in nodes():
            if isinstance(node, ast.Attribute):
                self.assertIn(node.attr, methods | values | set(METHODS), name)
                self.assertNotIn(node.attr, UNUSED, name)

    def test_is_beside_none_alone(self):
        for name, node in nodes():
            if isinstance(node, ast.Compare) and any(isinstance(op, (ast.Is, ast.IsNot)) for op in node.ops):
                self.assertTrue(isinstance(node.comparators[0], ast.Constant), ast.dump(node))
                self.assertIn(node.comparators[0].value, (None, True, False))

    def test_tables_of_a_files_top_are_only_read(self):
        for path, tree in trees():
            tables = [row.targets[0].id for row in tree.body
                      if isinstance(row, ast.Assign) and isinstance(row.value, (ast.List, ast.Dict))]
            read = []
            for node in ast.walk(tree):
                if isinstance(node, ast.Subscript) and isinstance(node.ctx, ast.Load):
                    read.append(node.value)
                elif isinstance(node, ast.Compare):
                    read.extend(node.comparators)
            for node in ast.walk(tree):
                if isinstance(node, ast.Name) and node.id in tables and isinstance(node.ctx, ast.Load):
                    self.assertIn(node, read, (path.name, node.id))


if __name__ == "__main__":
    unittest.main()
