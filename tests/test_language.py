"""Rules of LANGUAGE.md that a look at the files can tell."""

import ast
import builtins
import pathlib
import re
import tokenize
import unittest

PACKAGE = pathlib.Path(__file__).resolve().parent.parent / "chancetongue"
FILES = sorted(PACKAGE.glob("*.py"))
BUILTINS = set(
    "len range enumerate zip min max sum abs sorted reversed int str bool bytes list tuple dict set frozenset "
    "isinstance ord repr any all divmod Exception ValueError TypeError KeyError IndexError LookupError "
    "ZeroDivisionError ArithmeticError OverflowError RuntimeError NotImplementedError AttributeError "
    "StopIteration NotImplemented property staticmethod classmethod super".split()
)
NOT_CALLED = set(
    "register mro elements open input version_info with_traceback add_note attrgetter breakpoint builtins compile "
    "copyright credits delattr dir eval exec exit gc getattr globals hasattr help id importlib license locals "
    "methodcaller os quit setattr super type vars sys".split()
)
BARRED = re.compile(
    r"\b(type|typing|typing_extensions|enum|Enum|IntEnum|StrEnum|Flag|IntFlag|Generic|Protocol|ABC|ABCMeta|namedtuple"
    r"|NamedTuple|TypedDict|TYPE_CHECKING|abstractmethod)\b|dataclass|overload|contextmanager"
)
BUILTIN_METHODS = set(
    "append clear copy count endswith extend find get index insert isalnum isalpha isdigit islower isspace isupper items "
    "join keys ljust lower lstrip partition pop remove replace reverse rfind rjust rpartition rsplit rstrip setdefault "
    "split splitlines startswith strip update upper values zfill bit_length".split()
)
NO_ATTRIBUTES = set(
    "items keys values pop update append clear extend insert remove reverse setdefault sort args encode decode hex fromhex "
    "format".split()
)
STATEMENTS = (
    ast.Assign, ast.AugAssign, ast.AnnAssign, ast.If, ast.While, ast.For, ast.Return, ast.Break, ast.Continue, ast.Pass,
    ast.Raise, ast.Assert, ast.Delete, ast.Nonlocal, ast.Match, ast.With, ast.Try, ast.Expr, ast.FunctionDef,
    ast.ClassDef, ast.ImportFrom,
)


def bound_names(tree):
    """Each name that a file binds, with the node that does."""
    for node in ast.walk(tree):
        if isinstance(node, ast.Name) and not isinstance(node.ctx, ast.Load):
            yield node.id, node
        elif isinstance(node, ast.arg):
            yield node.arg, node
        elif isinstance(node, (ast.FunctionDef, ast.ClassDef)):
            yield node.name, node
        elif isinstance(node, ast.alias):
            yield node.asname or node.name, node


class Language(unittest.TestCase):
    def each(self):
        self.assertTrue(FILES)
        for path in FILES:
            text = path.read_bytes().decode("ascii")
            yield path.name, text, ast.parse(text)

    def nodes(self, *kinds):
        for file, text, tree in self.each():
            for node in ast.walk(tree):
                if isinstance(node, kinds):
                    yield f"{file}:{node.lineno}", node

    def test_the_folder_has_nothing_else(self):
        found = [path.name for path in PACKAGE.iterdir() if path.name != "__pycache__"]
        self.assertEqual(sorted(found), [path.name for path in FILES])
        self.assertIn("__init__.py", found)
        self.assertTrue(all(re.fullmatch(r"[a-z0-9_]+\.py", name) for name in found))

    def test_sizes_and_signs(self):
        for file, text, tree in self.each():
            lines = text.split("\n")
            self.assertLessEqual(len(lines), 400, file)
            self.assertLessEqual(max(map(len, lines)), 120, file)
            self.assertTrue(all(sign == "\n" or " " <= sign <= "~" for sign in text), file)
            self.assertIsNone(BARRED.search(text), file)
        for place, node in self.nodes(ast.FunctionDef):
            self.assertLessEqual(node.end_lineno - node.lineno + 1, 40, place)

    def test_imports(self):
        modules = {path.stem for path in FILES}
        for place, node in self.nodes(ast.Import, ast.ImportFrom):
            self.assertIsInstance(node, ast.ImportFrom, place)
            self.assertEqual(node.level, 0, place)
            package, _, module = node.module.partition(".")
            self.assertEqual(package, "chancetongue", place)
            self.assertIn(module, modules, place)
            self.assertNotIn("*", [alias.name for alias in node.names], place)

    def test_imports_name_the_file_that_defines(self):
        defined = {}
        for file, text, tree in self.each():
            own = [node for node in tree.body if not isinstance(node, ast.ImportFrom)]
            defined[file[:-3]] = {name for node in own for name, where in bound_names(node)}
        for place, node in self.nodes(ast.ImportFrom):
            for alias in node.names:
                self.assertIn(alias.name, defined[node.module.partition(".")[2]], place)

    def test_no_two_files_import_from_each_other(self):
        leads = {}
        for file, text, tree in self.each():
            names = [node.module.partition(".")[2] for node in ast.walk(tree) if isinstance(node, ast.ImportFrom)]
            leads[file[:-3]] = set(names)
        while leads:
            free = [name for name in leads if not leads[name] & set(leads)]
            self.assertTrue(free, leads)
            for name in free:
                del leads[name]

    def test_names(self):
        for file, text, tree in self.each():
            for name, node in bound_names(tree):
                place = f"{file}: {name}"
                self.assertNotIn(name, NOT_CALLED, place)
                if not (isinstance(node, ast.FunctionDef) and name.startswith("__")):
                    self.assertNotIn(name, dir(builtins), place)
                    self.assertFalse(name.startswith("_"), place)

    def test_builtins(self):
        for file, text, tree in self.each():
            bound = {name for name, node in bound_names(tree)}
            for node in ast.walk(tree):
                if isinstance(node, ast.Name) and node.id not in bound:
                    self.assertIn(node.id, BUILTINS, f"{file}:{node.lineno}")

    def test_module_level(self):
        for file, text, tree in self.each():
            bound = []
            for place, node in enumerate(tree.body):
                docstring = isinstance(node, ast.Expr) and place == 0
                plain = isinstance(node, (ast.ImportFrom, ast.FunctionDef, ast.ClassDef, ast.Assign))
                self.assertTrue(docstring or plain, f"{file}:{node.lineno}")
                if isinstance(node, ast.Assign):
                    self.assertFalse([x for x in ast.walk(node) if isinstance(x, (ast.Call, ast.ListComp))], file)
                bound.extend([node.name] if hasattr(node, "name") else [])
                bound.extend([alias.name for alias in node.names] if isinstance(node, ast.ImportFrom) else [])
                bound.extend([target.id for target in node.targets] if isinstance(node, ast.Assign) else [])
            self.assertEqual(len(bound), len(set(bound)), file)

    def test_statements_and_signs_of_the_language(self):
        for place, node in self.nodes(ast.stmt):
            self.assertIsInstance(node, STATEMENTS, place)
        for place, node in self.nodes(ast.Constant):
            self.assertNotIsInstance(node.value, (float, complex), place)
            if isinstance(node.value, (str, bytes)):
                self.assertNotIn("%", str(node.value), place)
        for place, node in self.nodes(ast.BinOp, ast.AugAssign):
            self.assertNotIsInstance(node.op, (ast.Div, ast.MatMult), place)
            if isinstance(node.op, ast.Pow):
                self.assertTrue(isinstance(node.right, ast.Constant) and 0 <= node.right.value <= 64, place)
        for place, node in self.nodes(ast.Compare):
            for sign, right in zip(node.ops, node.comparators):
                if isinstance(sign, (ast.Is, ast.IsNot)):
                    self.assertIn(getattr(right, "value", 0), (None, True, False), place)
                    self.assertIsInstance(right, ast.Constant, place)

    def test_decorators_and_handlers(self):
        for place, node in self.nodes(ast.FunctionDef, ast.ClassDef):
            if isinstance(node, ast.ClassDef):
                self.assertEqual(node.decorator_list, [], place)
        for place, node in self.nodes(ast.ExceptHandler):
            self.assertIsNotNone(node.type, place)
            self.assertNotIn(ast.unparse(node.type), ("Exception", "TypeError"), place)
        for place, node in self.nodes(ast.Raise):
            self.assertTrue(node.exc is None or isinstance(node.exc, ast.Call), place)

    def test_no_name_is_a_method_here_and_an_attribute_there(self):
        methods, assigned, read = set(), set(), set()
        for place, node in self.nodes(ast.ClassDef):
            own = [part.name for part in node.body if isinstance(part, ast.FunctionDef)]
            self.assertEqual(len(own), len(set(own)), place)
            methods.update(own)
        for place, node in self.nodes(ast.Attribute):
            (read if isinstance(node.ctx, ast.Load) else assigned).add(node.attr)
        self.assertEqual(methods & assigned, set())
        self.assertEqual(read - methods - assigned - BUILTIN_METHODS, set())
        self.assertEqual(assigned & NO_ATTRIBUTES, set())

    def test_lengths(self):
        for place, node in self.nodes(ast.FunctionDef):
            if node.name == "__len__":
                self.assertTrue(ast.unparse(node.body[-1]).startswith("return len("), place)
            if node.name == "__init__":
                self.assertFalse([part for part in ast.walk(node) if isinstance(part, ast.Return)], place)

    def test_no_generators_and_no_stars_over_calls(self):
        for place, node in self.nodes(ast.GeneratorExp, ast.Yield, ast.YieldFrom):
            self.fail(place)
        for place, node in self.nodes(ast.Starred):
            self.assertNotIsInstance(node.value, ast.Call, place)

    def test_sets_stand_where_they_may(self):
        for file, text, tree in self.each():
            kept = set()
            for node in ast.walk(tree):
                if isinstance(node, ast.Call) and ast.unparse(node.func) in ("sorted", "len"):
                    kept.update(id(part) for part in node.args)
                if isinstance(node, ast.Compare):
                    kept.update(id(part) for part in [node.left, *node.comparators])
            for node in ast.walk(tree):
                made = isinstance(node, ast.Call) and ast.unparse(node.func) == "set"
                if made or isinstance(node, (ast.Set, ast.SetComp)):
                    self.assertIn(id(node), kept, f"{file}:{node.lineno}")

    def test_views_are_iterated_on_the_spot(self):
        wrappers = ("list", "tuple", "dict", "sorted", "sum", "any", "all", "enumerate", "zip", "min", "max")
        for file, text, tree in self.each():
            kept = set()
            for node in ast.walk(tree):
                if isinstance(node, (ast.For, ast.comprehension)):
                    kept.add(id(node.iter))
                if isinstance(node, ast.Call) and ast.unparse(node.func) in wrappers:
                    kept.update(id(part) for part in node.args)
            for node in ast.walk(tree):
                called = ast.unparse(node.func) if isinstance(node, ast.Call) else ""
                if called in ("zip", "enumerate", "reversed", "range") or called.endswith((".items", ".keys", ".values")):
                    self.assertIn(id(node), kept, f"{file}:{node.lineno}")

    def test_no_tabs_and_no_other_escapes(self):
        for path in FILES:
            with open(path, "rb") as file:
                for token in tokenize.tokenize(file.readline):
                    if token.type == tokenize.STRING:
                        self.assertIsNone(re.search(r"\\[^nt\\'\"]", token.string), f"{path.name}:{token.start[0]}")


if __name__ == "__main__":
    unittest.main()
