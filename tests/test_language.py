"""The form of the package's code: those rules of LANGUAGE.md that a look at the syntax can ask."""

import ast
import builtins
import pathlib
import re
import unittest

PACKAGE = pathlib.Path(__file__).resolve().parent.parent / "samepaper"
FILES = sorted(PACKAGE.glob("*.py"))

BUILTINS = set("""len range enumerate zip min max sum abs sorted reversed int str bool list tuple dict set
isinstance ord repr any all divmod Exception ValueError TypeError KeyError IndexError LookupError ZeroDivisionError
ArithmeticError OverflowError RuntimeError NotImplementedError AttributeError""".split())
METHODS = set("""append clear copy count endswith extend find get index insert isalnum isalpha isdigit islower isspace
isupper items join keys ljust lower lstrip partition pop remove replace reverse rfind rjust rpartition rsplit rstrip
setdefault split splitlines startswith strip update upper values zfill bit_length title capitalize swapcase casefold center
expandtabs removeprefix removesuffix rindex isascii isdecimal isnumeric istitle isidentifier isprintable sort add
discard""".split())
DOUBLE = {"__init__", "__eq__", "__repr__", "__str__", "__len__"}
BARRED_WORDS = re.compile(
    r"\b(type|typing|typing_extensions|enum|Enum|IntEnum|StrEnum|Flag|IntFlag|Generic|Protocol|ABC|ABCMeta|namedtuple"
    r"|NamedTuple|TypedDict|TYPE_CHECKING|abstractmethod)\b|dataclass|overload|contextmanager")
BARRED_NAMES = set("""register mro elements open input version_info with_traceback add_note attrgetter breakpoint builtins
compile copyright credits delattr dir eval exec exit gc getattr globals hasattr help id importlib license locals
methodcaller os quit setattr super type vars sys""".split())
AT_ONCE = {"zip", "enumerate", "reversed", "range"}
TAKERS = {"list", "tuple", "dict", "sorted", "sum", "any", "all", "enumerate", "zip", "min", "max", "reversed", "len"}
VALUE_NAMES = set()
for kind in (str, int, list, dict, set, bytes, tuple):
    VALUE_NAMES |= {name for name in dir(kind) if not name.startswith("_")}
BARRED_NODES = (ast.Global, ast.AsyncFunctionDef, ast.AsyncFor, ast.AsyncWith, ast.Await, ast.Div, ast.MatMult,
                ast.GeneratorExp)


def parsed(path):
    tree = ast.parse(path.read_text())
    for node in ast.walk(tree):
        for child in ast.iter_child_nodes(node):
            child.above = node
    return tree


TREES = {path.stem: parsed(path) for path in FILES}


def nodes(kind):
    for name, tree in TREES.items():
        for node in ast.walk(tree):
            if isinstance(node, kind):
                yield name, node


def bound_names(tree):
    """The names that a module binds at its top, imports among them, with repeats."""
    for node in tree.body:
        if isinstance(node, (ast.FunctionDef, ast.ClassDef)):
            yield node.name
        elif isinstance(node, ast.ImportFrom):
            yield from (alias.asname or alias.name for alias in node.names)
        elif isinstance(node, ast.Assign):
            yield from (target.id for target in node.targets)


def own_methods():
    return {node.name for name, node in nodes(ast.FunctionDef) if isinstance(node.above, ast.ClassDef)}


def own_attributes():
    return {node.attr for name, node in nodes(ast.Attribute) if isinstance(node.ctx, ast.Store)}


def is_iterated_at_once(node):
    above = node.above
    if isinstance(above, (ast.For, ast.comprehension)):
        return above.iter is node
    if isinstance(above, ast.Call):
        callee = above.func
        return (isinstance(callee, ast.Name) and callee.id in TAKERS
                or isinstance(callee, ast.Attribute) and callee.attr == "join")
    return isinstance(above, ast.Compare)


class LanguageTest(unittest.TestCase):
    def test_files(self):
        for path in PACKAGE.iterdir():
            self.assertTrue(path.suffix == ".py" or path.name == "__pycache__", path)
        for path in FILES:
            self.assertRegex(path.name, r"^[a-z0-9_]+\.py$")
            self.assertFalse(path.stem.startswith("test"))
            self.assertNotIn(path.stem, dir(builtins))
            text = path.read_text()
            lines = text.split("\n")
            self.assertLessEqual(len(lines), 401, path)
            self.assertLessEqual(max(len(line) for line in lines), 120, path)
            self.assertRegex(text, r"\A[\n -~]*\Z", path)
            self.assertIsNone(BARRED_WORDS.search(text), path)

    def test_sizes_of_functions(self):
        for name, node in nodes((ast.FunctionDef, ast.Lambda)):
            self.assertLessEqual(node.end_lineno - node.lineno + 1, 40, (name, node.lineno))

    def test_imports(self):
        edges = {}
        for name, tree in TREES.items():
            self.assertFalse([node for node in ast.walk(tree) if isinstance(node, ast.Import)])
            edges[name] = set()
            for node in ast.walk(tree):
                if isinstance(node, ast.ImportFrom):
                    self.assertIs(node.above, tree)
                    self.assertEqual(node.level, 0)
                    package, module = node.module.split(".")
                    self.assertEqual(package, "samepaper")
                    edges[name].add(module)
                    own = [n for n in TREES[module].body if not isinstance(n, ast.ImportFrom)]
                    defined = set(bound_names(ast.Module(own, [])))
                    for alias in node.names:
                        self.assertIn(alias.name, defined, (name, alias.name))
                        self.assertIsNone(alias.asname)
        while edges:
            free = [name for name in edges if not edges[name] & set(edges)]
            self.assertTrue(free, f"a ring of imports: {edges}")
            edges = {name: edges[name] for name in edges if name not in free}

    def test_what_is_imported_is_used(self):
        for name, tree in TREES.items():
            used = {node.id for node in ast.walk(tree) if isinstance(node, ast.Name)}
            for node in tree.body:
                if isinstance(node, ast.ImportFrom):
                    for alias in node.names:
                        self.assertIn(alias.name, used, name)

    def test_module_level(self):
        for name, tree in TREES.items():
            names = list(bound_names(tree))
            self.assertEqual(len(names), len(set(names)), name)
            self.assertIsNotNone(ast.get_docstring(tree), name)
            for node in tree.body[1:]:
                self.assertIsInstance(node, (ast.FunctionDef, ast.ClassDef, ast.ImportFrom, ast.Assign), name)
                if isinstance(node, ast.Assign):
                    for inner in ast.walk(node.value):
                        self.assertNotIsInstance(inner, (ast.Call, ast.Lambda, ast.ListComp, ast.DictComp, ast.Set), name)
                        if inner is not node.value:
                            self.assertNotIsInstance(inner, (ast.List, ast.Dict), name)

    def test_names(self):
        for name, tree in TREES.items():
            outer = {alias.name for node in tree.body if isinstance(node, ast.ImportFrom) for alias in node.names}
            outer |= {node.name for node in tree.body if isinstance(node, ast.ClassDef)}
            for node in ast.walk(tree):
                told = None
                if isinstance(node, ast.Name) and isinstance(node.ctx, ast.Store):
                    told = node.id
                elif isinstance(node, ast.arg):
                    told = node.arg
                elif isinstance(node, (ast.FunctionDef, ast.ClassDef)):
                    told = node.name
                if told is None or told in DOUBLE:
                    continue
                self.assertRegex(told, r"^[A-Za-z][A-Za-z0-9_]*$")
                self.assertNotIn(told, BARRED_NAMES, name)
                is_method = isinstance(node, ast.FunctionDef) and isinstance(node.above, ast.ClassDef)
                if not is_method:
                    self.assertNotIn(told, dir(builtins), (name, told))
                if not is_method and not (node in tree.body):
                    self.assertNotIn(told, outer, (name, told))

    def test_builtins(self):
        for name, node in nodes(ast.Name):
            if isinstance(node.ctx, ast.Load) and node.id in dir(builtins):
                self.assertIn(node.id, BUILTINS, (name, node.lineno))

    def test_methods_and_attributes(self):
        methods, attributes = own_methods(), own_attributes()
        self.assertFalse(methods & attributes)
        self.assertFalse((methods | attributes) & VALUE_NAMES)
        for name, node in nodes(ast.Attribute):
            self.assertFalse(node.attr.startswith("_") and node.attr not in DOUBLE)
            if node.attr in attributes or node.attr in DOUBLE:
                continue
            self.assertTrue(isinstance(node.above, ast.Call) and node.above.func is node, (name, node.lineno, node.attr))
            self.assertIn(node.attr, methods | METHODS, (name, node.lineno))
            if node.attr not in methods and node.attr != "sort":
                self.assertFalse(node.above.keywords, (name, node.lineno))

    def test_classes(self):
        for name, node in nodes(ast.ClassDef):
            self.assertIsInstance(node.above, ast.Module)
            self.assertFalse(node.decorator_list)
        for name, node in nodes(ast.FunctionDef):
            self.assertFalse(node.decorator_list)
            if node.name.startswith("_"):
                self.assertIn(node.name, DOUBLE)
                self.assertIsInstance(node.above, ast.ClassDef)

    def test_barred_statements_and_expressions(self):
        for name, node in nodes(BARRED_NODES):
            takes = isinstance(node, ast.GeneratorExp) and is_iterated_at_once(node)
            self.assertTrue(takes, (name, node.lineno if hasattr(node, "lineno") else node))
        for name, node in nodes(ast.Compare):
            for op, right in zip(node.ops, node.comparators):
                if isinstance(op, (ast.Is, ast.IsNot)):
                    self.assertIsInstance(right, ast.Constant, name)
                    self.assertIn(right.value, (None, True, False))
        for name, node in nodes(ast.Constant):
            self.assertNotIsInstance(node.value, (float, complex))
            if isinstance(node.value, str):
                self.assertNotIn("%", node.value, (name, node.lineno))
        for name, node in nodes(ast.Raise):
            self.assertTrue(node.exc is None or isinstance(node.exc, ast.Call) and isinstance(node.exc.func, ast.Name))
        for name, node in nodes(ast.Pow):
            self.fail((name, "write a power as a literal, or use a loop"))

    def test_iterated_at_once(self):
        for name, node in nodes(ast.Call):
            callee = node.func
            if isinstance(callee, ast.Name) and callee.id in AT_ONCE:
                self.assertTrue(is_iterated_at_once(node), (name, node.lineno))
            if isinstance(callee, ast.Attribute) and callee.attr in ("items", "keys", "values"):
                self.assertTrue(is_iterated_at_once(node), (name, node.lineno))

    def test_what_a_loop_goes_over_is_not_changed_in_it(self):
        changing = {"append", "clear", "extend", "insert", "pop", "remove", "reverse", "setdefault", "update", "sort"}
        for name, loop in nodes(ast.For):
            over = {ast.unparse(node) for node in ast.walk(loop.iter) if isinstance(node, (ast.Name, ast.Attribute))}
            for node in (inner for part in loop.body for inner in ast.walk(part)):
                if isinstance(node, ast.Call) and isinstance(node.func, ast.Attribute) and node.func.attr in changing:
                    self.assertNotIn(ast.unparse(node.func.value), over, (name, node.lineno))
                if isinstance(node, ast.Subscript) and not isinstance(node.ctx, ast.Load):
                    self.assertNotIn(ast.unparse(node.value), over, (name, node.lineno))

    def test_sets_stay_where_they_are(self):
        for name, node in nodes((ast.Set, ast.SetComp)):
            stands = isinstance(node.above, (ast.Compare, ast.Assign)) or is_iterated_at_once(node)
            self.assertTrue(stands, (name, node.lineno))
        for name, node in nodes(ast.Call):
            if isinstance(node.func, ast.Name) and node.func.id == "set":
                stands = isinstance(node.above, (ast.Compare, ast.Assign)) or is_iterated_at_once(node)
                self.assertTrue(stands, (name, node.lineno))


if __name__ == "__main__":
    unittest.main()
