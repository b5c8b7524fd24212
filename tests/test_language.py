"""The package keeps to the part of Python that it is written in."""

import ast
import builtins
import pathlib
import re
import unittest

FOLDER = pathlib.Path(__file__).resolve().parent.parent / "shortglue"
FILES = sorted(path for path in FOLDER.rglob("*") if "__pycache__" not in path.parts)

BUILTINS = set("""len range enumerate zip min max sum abs sorted reversed int str bool bytes list tuple dict set
    frozenset isinstance ord repr any all divmod Exception ValueError TypeError KeyError IndexError LookupError
    ZeroDivisionError ArithmeticError OverflowError RuntimeError NotImplementedError AttributeError StopIteration""".split())

NODES = (
    ast.Module, ast.ImportFrom, ast.alias, ast.FunctionDef, ast.ClassDef, ast.arguments, ast.arg, ast.Lambda,
    ast.Assign, ast.AugAssign, ast.If, ast.While, ast.For, ast.Return, ast.Break, ast.Continue, ast.Pass, ast.Raise,
    ast.Try, ast.ExceptHandler, ast.Expr, ast.Assert, ast.Delete, ast.Constant, ast.Name, ast.Attribute,
    ast.Subscript, ast.Slice, ast.List, ast.Tuple, ast.Dict, ast.Set, ast.ListComp, ast.DictComp, ast.SetComp,
    ast.comprehension, ast.BinOp, ast.UnaryOp, ast.BoolOp, ast.Compare, ast.IfExp, ast.Call, ast.keyword,
    ast.JoinedStr, ast.FormattedValue, ast.Starred,
    ast.expr_context, ast.operator, ast.unaryop, ast.boolop, ast.cmpop,
)

METHODS = set("""append clear copy count endswith extend find get index insert isalnum isalpha isdigit islower isspace
    isupper items join keys ljust lower lstrip partition pop remove replace reverse rfind rjust rpartition rsplit
    rstrip setdefault split splitlines startswith strip update upper values zfill bit_length add discard sort""".split())

DUNDERS = {"__init__", "__eq__", "__repr__", "__str__", "__len__"}

BARRED_WORDS = re.compile(r"\b(type|typing|typing_extensions|enum|Enum|IntEnum|StrEnum|Flag|IntFlag|Generic|Protocol|"
                          r"ABC|ABCMeta|namedtuple|NamedTuple|TypedDict|TYPE_CHECKING|abstractmethod)\b"
                          r"|dataclass|overload|contextmanager")

BARRED_NAMES = set("""register mro elements open input version_info with_traceback add_note attrgetter breakpoint
    builtins compile copyright credits delattr dir eval exec exit gc getattr globals hasattr help id importlib license
    locals methodcaller os quit setattr super vars sys format format_map hash map next round iter filter pow slice
    object property callable print chr""".split())


def trees():
    return [(path, path.read_text(encoding="utf-8")) for path in FILES]


def walked(text):
    return list(ast.walk(ast.parse(text)))


WALKED = {"zip", "enumerate", "reversed", "range"}

WALKERS = {"list", "tuple", "dict", "sorted", "sum", "any", "all", "enumerate", "zip", "bytes", "min", "max"}


def is_call_of(node, names):
    return isinstance(node, ast.Call) and isinstance(node.func, ast.Name) and node.func.id in names


def walked_on_the_spot(nodes):
    """All things that are walked, or handed to what walks them, where they stand."""
    spots = [node.iter for node in nodes if isinstance(node, (ast.For, ast.comprehension))]
    spots += [node.args[0] for node in nodes if is_call_of(node, WALKERS)]
    spots += [node.args[0] for node in nodes if is_call_of(node, {"len", "reversed"})
              and is_call_of(node.args[0], {"range"})]
    spots += [node.comparators[0] for node in nodes if isinstance(node, ast.Compare)
              and isinstance(node.ops[0], (ast.In, ast.NotIn))]
    return spots


def top_names(text):
    """All names that a file defines at its top."""
    names = []
    for row in ast.parse(text).body:
        names += [row.name] if isinstance(row, (ast.FunctionDef, ast.ClassDef)) else []
        names += [target.id for target in row.targets] if isinstance(row, ast.Assign) else []
    return names


def bound_names(nodes):
    """All names that a file gives to something."""
    names = [node.id for node in nodes if isinstance(node, ast.Name) and not isinstance(node.ctx, ast.Load)]
    names += [node.arg for node in nodes if isinstance(node, ast.arg)]
    names += [node.name for node in nodes if isinstance(node, (ast.FunctionDef, ast.ClassDef))]
    names += [node.name for node in nodes if isinstance(node, ast.ExceptHandler) and node.name]
    names += [node.attr for node in nodes if isinstance(node, ast.Attribute) and not isinstance(node.ctx, ast.Load)]
    return names


class Language(unittest.TestCase):
    def each(self):
        return [(text, walked(text)) for path, text in trees()]

    def test_files(self):
        self.assertIn(FOLDER / "__init__.py", FILES)
        for path in FILES:
            self.assertRegex(path.name, r"^[a-z0-9_]+\.py$")
            self.assertEqual(path.parent, FOLDER)

    def test_sizes_and_signs(self):
        for text, nodes in self.each():
            rows = text.split("\n")
            self.assertLessEqual(len(rows), 400)
            self.assertLessEqual(max(len(row) for row in rows), 120)
            self.assertRegex(text, r"\A[ -~\n]*\Z")
            for node in nodes:
                if isinstance(node, ast.FunctionDef):
                    self.assertLessEqual(node.end_lineno - node.lineno + 1, 40, node.name)

    def test_barred_words(self):
        for text, _ in self.each():
            self.assertIsNone(BARRED_WORDS.search(text))

    def test_imports(self):
        for text, nodes in self.each():
            top = ast.parse(text).body
            for node in nodes:
                if isinstance(node, ast.ImportFrom):
                    self.assertEqual(node.level, 0)
                    self.assertTrue(node.module.startswith("shortglue."))
                    self.assertIn(ast.dump(node), [ast.dump(row) for row in top])
                    self.assertTrue(all(name.name != "*" and name.asname is None for name in node.names))

    def test_drawn_names(self):
        defined = {f"shortglue.{path.stem}": top_names(text) for path, text in trees()}
        above = {}
        for path, text in trees():
            rows = [row for row in ast.parse(text).body if isinstance(row, ast.ImportFrom)]
            above[f"shortglue.{path.stem}"] = [row.module for row in rows]
            used = {node.id for node in walked(text) if isinstance(node, ast.Name)}
            for row in rows:
                for name in row.names:
                    self.assertIn(name.name, defined[row.module])
                    self.assertIn(name.name, used)
        # Files that draw from none that is left are taken away, until none is left.
        while above:
            free = [file for file in above if not any(other in above for other in above[file])]
            self.assertTrue(free, above)
            above = {file: others for file, others in above.items() if file not in free}

    def test_walked_at_once(self):
        for _, nodes in self.each():
            spots = walked_on_the_spot(nodes)
            for node in nodes:
                named = isinstance(node, ast.Call) and isinstance(node.func, ast.Attribute)
                if is_call_of(node, WALKED) or named and node.func.attr in ("items", "keys", "values"):
                    self.assertTrue(any(node is spot for spot in spots), ast.unparse(node))

    def test_sets_and_powers(self):
        for _, nodes in self.each():
            kept = [node.value for node in nodes if isinstance(node, ast.Assign)]
            asked = [node.args[0] for node in nodes if is_call_of(node, {"len", "sorted"})]
            beside = [part for node in nodes if isinstance(node, ast.Compare) for part in [node.left] + node.comparators]
            for node in nodes:
                if is_call_of(node, {"set"}) or isinstance(node, (ast.Set, ast.SetComp)):
                    self.assertTrue(any(node is spot for spot in kept + asked + beside), ast.unparse(node))
                if isinstance(node, ast.BinOp) and isinstance(node.op, ast.Pow):
                    self.assertIsInstance(node.right, ast.Constant)

    def test_nodes(self):
        for _, nodes in self.each():
            for node in nodes:
                self.assertIsInstance(node, NODES)
                if isinstance(node, (ast.FunctionDef, ast.ClassDef)):
                    self.assertEqual(node.decorator_list, [])
                if isinstance(node, ast.arguments):
                    self.assertEqual((node.vararg, node.kwarg, node.posonlyargs), (None, None, []))
                if isinstance(node, (ast.For, ast.While)):
                    self.assertEqual(node.orelse, [])
                if isinstance(node, (ast.BinOp, ast.AugAssign)):
                    self.assertNotIsInstance(node.op, (ast.Div, ast.MatMult))
                if isinstance(node, ast.Constant):
                    self.assertNotIsInstance(node.value, (float, complex))
                if isinstance(node, ast.Constant) and isinstance(node.value, str):
                    self.assertNotIn("%", node.value)
                if isinstance(node, ast.Compare) and any(isinstance(op, (ast.Is, ast.IsNot)) for op in node.ops):
                    self.assertIn(ast.dump(node.comparators[0]), [ast.dump(ast.Constant(v)) for v in (None, True, False)])

    def test_top_rows(self):
        for text, _ in self.each():
            for row in ast.parse(text).body:
                self.assertIsInstance(row, (ast.Expr, ast.ImportFrom, ast.FunctionDef, ast.ClassDef, ast.Assign))
                if isinstance(row, ast.ClassDef):
                    self.assertTrue(all(isinstance(part, (ast.Expr, ast.FunctionDef)) for part in row.body))
                if isinstance(row, ast.Expr):
                    self.assertIsInstance(row.value.value, str)

    def test_names(self):
        for _, nodes in self.each():
            bound = bound_names(nodes)
            drawn = [name.name for node in nodes if isinstance(node, ast.ImportFrom) for name in node.names]
            for name in bound:
                self.assertTrue(name in DUNDERS or re.fullmatch(r"[A-Za-z][A-Za-z0-9_]*", name), name)
                self.assertNotIn(name, BARRED_NAMES | BUILTINS)
                self.assertNotIn(name, drawn)
            known = set(bound) | set(drawn) | BUILTINS
            for node in nodes:
                if isinstance(node, ast.Name):
                    self.assertIn(node.id, known)
                if isinstance(node, ast.Name) and not isinstance(node.ctx, ast.Load):
                    self.assertNotIn(node.id, dir(builtins))
                if isinstance(node, ast.arg):
                    self.assertNotIn(node.arg, dir(builtins))

    def test_methods_and_values(self):
        defs, values = set(), set()
        everything = [node for _, text in trees() for node in walked(text)]
        for node in everything:
            if isinstance(node, ast.ClassDef):
                defs |= {part.name for part in node.body if isinstance(part, ast.FunctionDef)}
            if isinstance(node, ast.Attribute) and isinstance(node.ctx, ast.Store):
                values.add(node.attr)
        self.assertEqual(defs & values, set())
        # A set that is kept may not be added to where a class has a method so called.
        for node in everything:
            if isinstance(node, ast.Attribute) and node.attr in ("add", "discard"):
                self.assertNotIn(node.attr, defs | values)
        for node in everything:
            if isinstance(node, ast.Attribute):
                self.assertIn(node.attr, METHODS | defs | values)


if __name__ == "__main__":
    unittest.main()
