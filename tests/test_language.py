"""Much of LANGUAGE.md, as far as it is easily seen in the package's own files; each test names its rules."""

import ast
import builtins
import pathlib
import re
import unittest

PACKAGE = pathlib.Path(__file__).resolve().parent.parent / "elderhouse"
FILES = sorted(path for path in PACKAGE.rglob("*") if "__pycache__" not in path.parts and path.is_file())
SOURCES = {path.stem: path.read_bytes().decode("utf-8") for path in FILES}
TREES = {stem: ast.parse(source) for stem, source in SOURCES.items()}

OWN_NAMES = set("""len range enumerate zip min max sum abs sorted reversed int str bool list tuple dict set frozenset
    isinstance ord repr any all divmod Exception ValueError TypeError KeyError IndexError LookupError
    ZeroDivisionError ArithmeticError OverflowError RuntimeError NotImplementedError AttributeError
    StopIteration""".split())
OWN_METHODS = set("""append clear copy count endswith extend find get index insert isalnum isalpha isdigit islower
    isspace isupper items join keys ljust lower lstrip partition pop remove replace reverse rfind rjust rpartition
    rsplit rstrip setdefault split splitlines startswith strip update upper values zfill bit_length""".split())
DUNDERS = {"__init__", "__eq__", "__repr__", "__str__", "__len__"}
NOWHERE = """type typing typing_extensions enum Enum IntEnum StrEnum Flag IntFlag Generic Protocol ABC ABCMeta
    namedtuple NamedTuple TypedDict TYPE_CHECKING abstractmethod""".split()
NO_NAMES = set("register mro elements open input version_info with_traceback add_note format format_map".split())
VALUE_NAMES = set("count index title find get join lower upper split strip copy add".split())
STATEMENTS = (ast.Assign, ast.AugAssign, ast.If, ast.While, ast.For, ast.Return, ast.Break, ast.Continue, ast.Pass,
              ast.Raise, ast.Try, ast.Expr, ast.FunctionDef, ast.ClassDef, ast.ImportFrom)
EXPRESSIONS = (ast.BoolOp, ast.BinOp, ast.UnaryOp, ast.Lambda, ast.IfExp, ast.Dict, ast.Set, ast.ListComp, ast.Compare,
               ast.Call, ast.JoinedStr, ast.FormattedValue, ast.Constant, ast.Attribute, ast.Subscript, ast.Name,
               ast.List, ast.Tuple, ast.Slice)


def nodes(*kinds):
    return [(stem, node) for stem, tree in TREES.items() for node in ast.walk(tree) if isinstance(node, kinds)]


def methods():
    return {item.name for _, node in nodes(ast.ClassDef) for item in node.body if isinstance(item, ast.FunctionDef)}


def values():
    return {node.attr for _, node in nodes(ast.Attribute) if isinstance(node.ctx, ast.Store)}


def top_names(tree):
    names = []
    for node in tree.body:
        if isinstance(node, ast.ImportFrom):
            names += [alias.asname or alias.name for alias in node.names]
        elif isinstance(node, (ast.FunctionDef, ast.ClassDef)):
            names.append(node.name)
        elif isinstance(node, ast.Assign):
            names += [target.id for target in node.targets]
    return names


def local_names(tree):
    names = [node.arg for node in ast.walk(tree) if isinstance(node, ast.arg)]
    for around in [node for node in ast.walk(tree) if isinstance(node, ast.FunctionDef)]:
        for node in ast.walk(around):
            if isinstance(node, ast.Name) and isinstance(node.ctx, ast.Store):
                names.append(node.id)
            elif isinstance(node, ast.ExceptHandler) and node.name:
                names.append(node.name)
    return names


def is_plain(value, known):
    if isinstance(value, (ast.List, ast.Tuple)):
        return all(is_plain(item, known) for item in value.elts)
    if isinstance(value, ast.Dict):
        return all(is_plain(item, known) for item in value.keys + value.values)
    if isinstance(value, ast.Name):
        return value.id in known
    if isinstance(value, ast.BinOp):
        return is_plain(value.left, known) and is_plain(value.right, known)
    if isinstance(value, ast.UnaryOp):
        return is_plain(value.operand, known)
    return isinstance(value, ast.Constant) and not isinstance(value.value, (float, bytes))


WALKERS = set("list tuple dict sorted sum any all enumerate zip min max".split())


def is_walk(node):
    if isinstance(node.func, ast.Name):
        return node.func.id in ("zip", "enumerate", "reversed", "range")
    return isinstance(node.func, ast.Attribute) and node.func.attr in ("items", "keys", "values")


class Files(unittest.TestCase):
    def test_l1_l14_files_and_signs(self):
        self.assertIn("__init__", SOURCES)
        for path in FILES:
            self.assertRegex(path.name, r"^([a-z][a-z0-9_]*|__init__|__main__)\.py$")
            self.assertNotIn(path.stem, dir(builtins) + NOWHERE + ["test", "tests", "testing", "site", "conftest"])
        for stem, source in SOURCES.items():
            self.assertRegex(source, r"\A[ -~\n]*\Z", stem)

    def test_l10_size(self):
        for stem, source in SOURCES.items():
            self.assertLessEqual(source.count("\n"), 400, stem)
            self.assertLessEqual(max(len(line) for line in source.split("\n")), 120, stem)
        for stem, node in nodes(ast.FunctionDef):
            self.assertLessEqual(node.end_lineno - node.lineno + 1, 40, (stem, node.name))

    def test_l17_words_that_stand_nowhere(self):
        for stem, source in SOURCES.items():
            for word in NOWHERE:
                self.assertIsNone(re.search(rf"\b{word}\b", source), (stem, word))
            self.assertIsNone(re.search("dataclass|overload|contextmanager", source), stem)


class Tops(unittest.TestCase):
    def test_l2_l16_imports(self):
        for stem, node in nodes(ast.Import, ast.ImportFrom):
            self.assertIsInstance(node, ast.ImportFrom, stem)
            self.assertIn(node, TREES[stem].body)
            self.assertEqual((node.level, node.module.split(".")[0]), (0, "elderhouse"), stem)
            defined = TREES[node.module.split(".", 1)[1]].body
            there = [item.name for item in defined if isinstance(item, (ast.FunctionDef, ast.ClassDef))]
            there += [target.id for item in defined if isinstance(item, ast.Assign) for target in item.targets]
            for alias in node.names:
                self.assertIn(alias.name, there, stem)
        self.assertEqual(len(TREES["__init__"].body), 1)

    def test_l16_no_two_draw_from_one_another(self):
        draws = {stem: {node.module.split(".", 1)[1] for at, node in nodes(ast.ImportFrom) if at == stem}
                 for stem in TREES}
        while draws:
            free = [stem for stem in draws if not draws[stem] & set(draws)]
            self.assertTrue(free, draws)
            for stem in free:
                del draws[stem]

    def test_l3_l15_the_top_of_a_module(self):
        for stem, tree in TREES.items():
            self.assertIsNotNone(ast.get_docstring(tree), stem)
            names = top_names(tree)
            self.assertEqual(len(names), len(set(names)), stem)
            for node in tree.body[1:]:
                self.assertIsInstance(node, (ast.ImportFrom, ast.FunctionDef, ast.ClassDef, ast.Assign), stem)
                if isinstance(node, ast.Assign):
                    self.assertTrue(is_plain(node.value, names), (stem, node.lineno))


class Inside(unittest.TestCase):
    def test_l4_functions(self):
        for stem, node in nodes(ast.FunctionDef, ast.Lambda):
            given = node.args
            self.assertFalse(given.vararg or given.kwarg or given.kwonlyargs or given.posonlyargs, (stem, node.lineno))
            self.assertFalse(getattr(node, "decorator_list", []), (stem, node.lineno))

    def test_l5_l18_classes(self):
        for stem, node in nodes(ast.ClassDef):
            self.assertIn(node, TREES[stem].body)
            self.assertLessEqual(len(node.bases) + len(node.keywords), 1, (stem, node.name))
            self.assertFalse(node.decorator_list)
            inner = [item.name for item in node.body if isinstance(item, ast.FunctionDef)]
            self.assertEqual(len(inner), len(set(inner)), (stem, node.name))
            for item in node.body:
                self.assertIsInstance(item, (ast.FunctionDef, ast.Pass), (stem, node.name))
        self.assertEqual(methods() & values(), set())

    def test_l6_statements(self):
        for stem, node in nodes(ast.stmt):
            self.assertIsInstance(node, STATEMENTS, (stem, node.lineno))
            if isinstance(node, (ast.While, ast.For)):
                self.assertFalse(node.orelse, (stem, node.lineno))
            if isinstance(node, ast.Try):
                self.assertFalse(node.finalbody or any(one.type is None for one in node.handlers), (stem, node.lineno))
            if isinstance(node, ast.Assign):
                self.assertEqual(len(node.targets), 1, (stem, node.lineno))
            if isinstance(node, ast.Expr) and node is not TREES[stem].body[0]:
                self.assertIsInstance(node.value, ast.Call, (stem, node.lineno))

    def test_l7_expressions(self):
        for stem, node in nodes(ast.expr):
            self.assertIsInstance(node, EXPRESSIONS, (stem, node.lineno))
            if isinstance(node, ast.Constant):
                self.assertNotIsInstance(node.value, (float, complex, bytes), (stem, node.lineno))
            if isinstance(node, ast.BinOp):
                self.assertNotIsInstance(node.op, (ast.Div, ast.MatMult), (stem, node.lineno))
            if isinstance(node, ast.ListComp):
                self.assertEqual(len(node.generators), 1, (stem, node.lineno))
                self.assertLessEqual(len(node.generators[0].ifs), 1, (stem, node.lineno))
            if isinstance(node, ast.FormattedValue):
                self.assertIsInstance(node.value, ast.Name, (stem, node.lineno))
                self.assertIsNone(node.format_spec, (stem, node.lineno))

    def test_l8_l12_l15_names(self):
        for stem, tree in TREES.items():
            tops, locals_here = top_names(tree), local_names(tree)
            classes = [node.name for node in tree.body if isinstance(node, ast.ClassDef)]
            drawn = [alias.name for node in tree.body if isinstance(node, ast.ImportFrom) for alias in node.names]
            for name in locals_here:
                self.assertNotIn(name, dir(builtins) + classes + drawn, stem)
            for node in ast.walk(tree):
                if isinstance(node, ast.Name):
                    self.assertTrue(node.id in OWN_NAMES or node.id in tops or node.id in locals_here, (stem, node.id))
            for name in tops + locals_here + sorted((methods() | values()) - DUNDERS):
                self.assertRegex(name, r"^[A-Za-z][A-Za-z0-9_]*$", stem)
                self.assertNotIn(name, NO_NAMES, stem)

    def test_l20_is(self):
        for stem, node in nodes(ast.Compare):
            for sign, right in zip(node.ops, node.comparators):
                if isinstance(sign, (ast.Is, ast.IsNot)):
                    self.assertIsInstance(right, ast.Constant, (stem, node.lineno))
                    self.assertIn(right.value, (None, True, False), (stem, node.lineno))

    def test_l25_l26_methods_and_values(self):
        for stem, node in nodes(ast.Call):
            if isinstance(node.func, ast.Attribute):
                self.assertIn(node.func.attr, OWN_METHODS | methods() | DUNDERS, (stem, node.lineno))
        pythons = {name for kind in (str, int, list, dict, set, bytes) for name in dir(kind)}
        self.assertEqual(values() & pythons - VALUE_NAMES, set())
        self.assertEqual(methods() & pythons - OWN_METHODS - DUNDERS - {"add", "discard"}, set())

    def test_l13_l21_l24_l28_what_the_package_does_without(self):
        for stem, node in nodes(ast.Set, ast.Name, ast.FunctionDef, ast.AnnAssign, ast.arg, ast.Call):
            self.assertNotIsInstance(node, (ast.Set, ast.AnnAssign), (stem, node.lineno))
            self.assertIsNone(getattr(node, "annotation", None) or getattr(node, "returns", None), (stem, node.lineno))
            if isinstance(node, ast.Name):
                self.assertNotIn(node.id, ("set", "frozenset"), (stem, node.lineno))
        self.assertEqual(methods() & DUNDERS - {"__init__"}, set())
        for stem, node in nodes(ast.FunctionDef):
            if node.name == "__init__":
                self.assertFalse([one for one in ast.walk(node) if isinstance(one, ast.Return)], (stem, node.lineno))
        lines = [(stem, node.lineno) for stem, node in nodes(ast.Lambda)]
        self.assertEqual(len(lines), len(set(lines)))

    def test_l19_errors(self):
        own = {node.name for node in TREES["errors"].body[1:]}
        for stem, node in nodes(ast.ExceptHandler):
            self.assertIn(node.type.id, own | {"KeyError"}, (stem, node.lineno))
        for stem, node in nodes(ast.Raise):
            self.assertIn(node.exc.func.id, own, (stem, node.lineno))
            self.assertIsNone(node.cause, (stem, node.lineno))

    def test_l22_pythons_own_are_called(self):
        classes = set("int str bool list tuple dict".split())
        for stem, tree in TREES.items():
            known = [node.func for node in ast.walk(tree) if isinstance(node, ast.Call)]
            known += [node.value for node in ast.walk(tree) if isinstance(node, ast.keyword) and node.arg == "key"]
            for node in ast.walk(tree):
                if isinstance(node, ast.Call) and isinstance(node.func, ast.Name) and node.func.id == "isinstance":
                    named = node.args[1].elts if isinstance(node.args[1], ast.Tuple) else [node.args[1]]
                    known += named
                    for one in named:
                        self.assertTrue(one.id in classes or one.id in top_names(tree), (stem, node.lineno))
                elif isinstance(node, ast.ClassDef):
                    known += node.bases
            for node in ast.walk(tree):
                if isinstance(node, ast.Name) and node.id in OWN_NAMES - {"ValueError", "KeyError"}:
                    self.assertTrue(any(node is one for one in known), (stem, node.lineno, node.id))
                if isinstance(node, ast.Call) and node.keywords:
                    self.assertIn(node.func.id, "sorted min max sum enumerate zip".split(), (stem, node.lineno))

    def test_l23_walked_at_once(self):
        for stem, tree in TREES.items():
            walked = [node.iter for node in ast.walk(tree) if isinstance(node, (ast.For, ast.comprehension))]
            for node in ast.walk(tree):
                if isinstance(node, ast.Call) and isinstance(node.func, ast.Name) and node.func.id in WALKERS:
                    walked += node.args[:1]
            for node in ast.walk(tree):
                if isinstance(node, ast.Call) and is_walk(node):
                    self.assertTrue(any(node is one for one in walked), (stem, node.lineno))

    def test_l27_texts(self):
        for stem, node in nodes(ast.Constant):
            if isinstance(node.value, str):
                self.assertNotIn("%", node.value, (stem, node.lineno))
        for stem, source in SOURCES.items():
            self.assertIsNone(re.search(r"\\[^nt\\\"'\n]", source), stem)


if __name__ == "__main__":
    unittest.main()
