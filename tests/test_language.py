"""That the package keeps to its part of Python, as far as a look at the code can tell."""

import ast
import builtins
import re
import unittest
from pathlib import Path

PACKAGE = Path(__file__).resolve().parent.parent / "driftclocks"
FILES = sorted(PACKAGE.glob("*.py"))

NODES = set("""Module Expr Constant Name Load Store Attribute Subscript Slice Call keyword ImportFrom alias FunctionDef
arguments arg ClassDef Return Assign AugAssign If While For Break Continue Pass Raise Try ExceptHandler BinOp UnaryOp BoolOp
Compare IfExp List Tuple Dict ListComp comprehension JoinedStr FormattedValue Lambda Add Sub Mult FloorDiv Mod Pow LShift
RShift BitOr BitXor BitAnd Invert Not USub And Or Eq NotEq Lt LtE Gt GtE Is IsNot In NotIn""".split())
OWN_NAMES = set("""len range enumerate zip min max sum abs sorted reversed int str bool list tuple dict set frozenset isinstance
ord repr any all divmod Exception ValueError KeyError IndexError LookupError ZeroDivisionError""".split())
METHODS = set("""append clear copy count endswith extend find get index insert isalnum isalpha isdigit islower isspace isupper
items join keys ljust lower lstrip partition pop remove replace reverse rfind rjust rpartition rsplit rstrip setdefault split
splitlines startswith strip update upper values zfill bit_length""".split())
NOT_USED = set("""register mro elements open input version_info with_traceback add_note attrgetter breakpoint builtins compile
copyright credits delattr dir eval exec exit gc getattr globals hasattr help id importlib license locals methodcaller os quit
setattr super type vars sys""".split())
WORDS = """type typing typing_extensions enum Enum IntEnum StrEnum Flag IntFlag Generic Protocol ABC ABCMeta namedtuple
NamedTuple TypedDict TYPE_CHECKING abstractmethod""".split()
WALKED = {"zip", "enumerate", "reversed", "range", "items", "keys", "values"}
WALKERS = {"list", "tuple", "dict", "sorted", "sum", "any", "all", "enumerate", "zip", "min", "max"}
CHANGERS = {"append", "clear", "extend", "insert", "pop", "remove", "reverse", "setdefault", "update"}
PYTHONS = {name for value in ("", 0, [], {}, set(), b"", ()) for name in dir(value)}


def called(node):
    if isinstance(node, ast.Call):
        return node.func.id if isinstance(node.func, ast.Name) else getattr(node.func, "attr", "")
    return ""


def names_bound(tree):
    for node in ast.walk(tree):
        if isinstance(node, (ast.FunctionDef, ast.ClassDef)):
            yield node, node.name
        elif isinstance(node, ast.arg):
            yield node, node.arg
        elif isinstance(node, ast.Name) and isinstance(node.ctx, ast.Store):
            yield node, node.id


def is_plain(node, functions):
    """Whether a value may stand at a file's top."""
    if isinstance(node, ast.UnaryOp):
        return isinstance(node.op, ast.USub) and isinstance(node.operand, ast.Constant)
    if isinstance(node, (ast.Tuple, ast.List)):
        return all(is_plain(part, functions) for part in node.elts)
    if isinstance(node, ast.Dict):
        return all(is_plain(part, functions) for part in node.keys + node.values)
    if isinstance(node, ast.Name):
        return node.id in functions
    return isinstance(node, ast.Constant)


class Language(unittest.TestCase):
    def each(self):
        for path in FILES:
            text = path.read_text(encoding="utf-8")
            yield path.name, text, ast.parse(text)

    def test_files(self):
        self.assertIn("lives.py", [path.name for path in FILES])
        for path in PACKAGE.iterdir():
            if path.name != "__pycache__":
                self.assertRegex(path.name, r"^(__init__|[a-z][a-z0-9_]*)\.py$")
                self.assertFalse(path.stem in dir(builtins) or path.stem.startswith("test"), path)

    def test_lines_and_signs(self):
        for name, text, tree in self.each():
            self.assertTrue(all(sign == "\n" or " " <= sign <= "~" for sign in text), name)
            lines = text.split("\n")
            self.assertLessEqual(len(lines), 400, name)
            self.assertLessEqual(max(len(line) for line in lines), 120, name)
            for node in ast.walk(tree):
                if isinstance(node, ast.FunctionDef):
                    self.assertLessEqual(node.end_lineno - node.lineno + 1, 40, (name, node.name))
            for word in WORDS:
                self.assertIsNone(re.search(r"\b" + word + r"\b", text), (name, word))
            for word in ("dataclass", "overload", "contextmanager"):
                self.assertNotIn(word, text, name)

    def test_nodes(self):
        for name, text, tree in self.each():
            for node in ast.walk(tree):
                where = (name, getattr(node, "lineno", 0), type(node).__name__)
                self.assertIn(type(node).__name__, NODES, where)
                if isinstance(node, ast.Constant):
                    self.assertTrue(node.value is None or type(node.value) in (int, str, bool), where)
                    self.assertFalse(isinstance(node.value, str) and "%" in node.value, where)
                if isinstance(node, (ast.For, ast.While, ast.Try)):
                    self.assertFalse(node.orelse, where)
                if isinstance(node, ast.Assign):
                    self.assertEqual(len(node.targets), 1, where)
                    self.assertIsInstance(node.targets[0], (ast.Name, ast.Attribute, ast.Subscript), where)
                if isinstance(node, (ast.FunctionDef, ast.ClassDef)):
                    self.assertFalse(node.decorator_list, where)
                if isinstance(node, ast.arguments):
                    self.assertFalse(node.vararg or node.kwarg or node.kwonlyargs or node.posonlyargs, where)
                if isinstance(node, ast.ListComp):
                    self.assertEqual(len(node.generators), 1, where)
                    self.assertLessEqual(len(node.generators[0].ifs), 1, where)
                if isinstance(node, ast.FormattedValue):
                    self.assertTrue(isinstance(node.value, ast.Name) and node.format_spec is None, where)
                if isinstance(node, ast.BinOp) and isinstance(node.op, ast.Pow):
                    self.assertIsInstance(node.right, ast.Constant, where)
                if isinstance(node, ast.Compare):
                    for operator, right in zip(node.ops, node.comparators):
                        if isinstance(operator, (ast.Is, ast.IsNot)):
                            self.assertIsInstance(right, ast.Constant, where)

    def test_names(self):
        for name, text, tree in self.each():
            tops = {node.name for node in tree.body if isinstance(node, ast.ClassDef)}
            drawn = {alias.name for node in tree.body if isinstance(node, ast.ImportFrom) for alias in node.names}
            bound = {found for node, found in names_bound(tree)} | drawn
            for node, found in names_bound(tree):
                where = (name, node.lineno, found)
                self.assertRegex(found, r"^([A-Za-z][A-Za-z0-9_]*|__init__)$", where)
                self.assertNotIn(found, dir(builtins), where)
                self.assertNotIn(found, NOT_USED, where)
                if not isinstance(node, (ast.FunctionDef, ast.ClassDef)):
                    self.assertNotIn(found, tops | drawn, where)
            for node in ast.walk(tree):
                if isinstance(node, ast.Name) and node.id not in bound:
                    self.assertIn(node.id, OWN_NAMES, (name, node.lineno))

    def test_imports(self):
        draws = {}
        for name, text, tree in self.each():
            draws[name] = []
            for node in ast.walk(tree):
                if isinstance(node, ast.ImportFrom):
                    self.assertIn(node, tree.body)
                    self.assertTrue(node.module.startswith("driftclocks.") and node.level == 0, name)
                    source = node.module.split(".")[1] + ".py"
                    draws[name].append(source)
                    tops = ast.parse((PACKAGE / source).read_text()).body
                    defined = {top.name for top in tops if isinstance(top, (ast.FunctionDef, ast.ClassDef))}
                    defined |= {top.targets[0].id for top in tops if isinstance(top, ast.Assign)}
                    for alias in node.names:
                        self.assertIsNone(alias.asname)
                        self.assertIn(alias.name, defined, name)
                        used = [found for found in ast.walk(tree) if isinstance(found, ast.Name) and found.id == alias.name]
                        self.assertTrue(used, (name, alias.name))
        self.assertEqual(draws["__init__.py"], [])
        while draws:
            free = [name for name in draws if not any(source in draws for source in draws[name])]
            self.assertTrue(free, draws)
            for name in free:
                draws.pop(name)

    def test_tops(self):
        for name, text, tree in self.each():
            functions = set()
            bound = []
            for node in tree.body:
                where = (name, node.lineno)
                if isinstance(node, ast.Expr):
                    self.assertIs(node, tree.body[0], where)
                elif isinstance(node, ast.FunctionDef):
                    functions.add(node.name)
                    bound.append(node.name)
                elif isinstance(node, ast.ClassDef):
                    bound.append(node.name)
                elif isinstance(node, ast.Assign):
                    bound.append(node.targets[0].id)
                    self.assertTrue(is_plain(node.value, functions), where)
                    if isinstance(node.value, (ast.List, ast.Dict)):
                        parts = list(ast.walk(node.value))[1:]
                        self.assertFalse([part for part in parts if isinstance(part, (ast.List, ast.Dict))], where)
                else:
                    self.assertIsInstance(node, ast.ImportFrom, where)
            self.assertEqual(len(bound), len(set(bound)), name)

    def test_methods_and_values(self):
        methods, values = set(), set()
        for name, text, tree in self.each():
            for node in ast.walk(tree):
                if isinstance(node, ast.ClassDef):
                    methods |= {part.name for part in node.body if isinstance(part, ast.FunctionDef)}
                    for part in node.body:
                        is_doc = isinstance(part, ast.Expr) and isinstance(part.value, ast.Constant)
                        self.assertTrue(is_doc or isinstance(part, ast.FunctionDef), (name, part.lineno))
                if isinstance(node, ast.Attribute) and isinstance(node.ctx, ast.Store):
                    values.add(node.attr)
        self.assertFalse(methods & values)
        self.assertFalse((values | methods - {"__init__"}) & PYTHONS)
        self.assertFalse((values | methods) & NOT_USED)
        for name, text, tree in self.each():
            handles = {id(node.func) for node in ast.walk(tree) if isinstance(node, ast.Call)}
            for node in ast.walk(tree):
                if isinstance(node, ast.Attribute):
                    allowed = METHODS | methods if id(node) in handles else values
                    self.assertIn(node.attr, allowed, (name, node.lineno))

    def test_walked_at_once(self):
        for name, text, tree in self.each():
            fine = set()
            for node in ast.walk(tree):
                if isinstance(node, (ast.For, ast.comprehension)):
                    fine.add(id(node.iter))
                if isinstance(node, ast.Call) and called(node) in WALKERS:
                    fine |= {id(part) for part in node.args}
            for node in ast.walk(tree):
                if called(node) in WALKED:
                    self.assertIn(id(node), fine, (name, node.lineno))
                self.assertNotIn(called(node), ("set", "frozenset"), (name, getattr(node, "lineno", 0)))

    def test_what_is_walked_is_not_changed(self):
        for name, text, tree in self.each():
            for loop in ast.walk(tree):
                if not isinstance(loop, ast.For):
                    continue
                walked = loop.iter
                while called(walked) in ("enumerate", "zip", "reversed", "items"):
                    walked = walked.args[0] if walked.args else walked.func.value
                source = ast.unparse(walked)
                for node in ast.walk(loop):
                    where = (name, getattr(node, "lineno", 0))
                    if called(node) in CHANGERS and isinstance(node.func, ast.Attribute):
                        self.assertNotEqual(ast.unparse(node.func.value), source, where)
                    if isinstance(node, ast.Subscript) and isinstance(node.ctx, ast.Store):
                        self.assertNotEqual(ast.unparse(node.value), source, where)


if __name__ == "__main__":
    unittest.main()
