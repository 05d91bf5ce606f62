"""The package keeps to the small part of Python that it is written in."""

import ast
import builtins
import pathlib
import re
import unittest

PACKAGE = pathlib.Path(__file__).resolve().parent.parent / "fundincome"
FILES = sorted(PACKAGE.rglob("*.py"))

STATEMENTS = (
    ast.Assign, ast.AugAssign, ast.If, ast.While, ast.For, ast.Return, ast.Break, ast.Continue, ast.Pass,
    ast.Raise, ast.Try, ast.Expr, ast.FunctionDef, ast.ClassDef, ast.ImportFrom)
EXPRESSIONS = (
    ast.Constant, ast.List, ast.Tuple, ast.Dict, ast.BinOp, ast.UnaryOp, ast.BoolOp, ast.Compare, ast.IfExp,
    ast.Call, ast.Attribute, ast.Subscript, ast.Slice, ast.ListComp, ast.JoinedStr, ast.FormattedValue,
    ast.Lambda, ast.Name)
PLAIN = (ast.Constant, ast.List, ast.Tuple, ast.Dict, ast.UnaryOp, ast.Name)
OWN_NAMES = """len range enumerate zip min max sum abs sorted reversed int str bool list tuple dict set frozenset
    isinstance ord repr any all divmod Exception ValueError TypeError KeyError IndexError LookupError
    ZeroDivisionError ArithmeticError OverflowError RuntimeError NotImplementedError AttributeError
    StopIteration""".split()
OWN_METHODS = """append clear copy count endswith extend find get index insert isalnum isalpha isdigit islower isspace
    isupper items join keys ljust lower lstrip partition pop remove replace reverse rfind rjust rpartition rsplit
    rstrip setdefault split splitlines startswith strip update upper values zfill bit_length""".split()
BANNED_NAMES = """register mro elements open input version_info with_traceback add_note attrgetter breakpoint builtins
    compile copyright credits delattr dir eval exec exit gc getattr globals hasattr help id importlib license locals
    methodcaller os quit setattr super type vars sys""".split()
BANNED_WORDS = """type typing typing_extensions enum Enum IntEnum StrEnum Flag IntFlag Generic Protocol ABC ABCMeta
    namedtuple NamedTuple TypedDict TYPE_CHECKING abstractmethod""".split()


def trees():
    return [(path, ast.parse(path.read_text())) for path in FILES]


def nodes(*kinds):
    return [(path, node) for path, tree in trees() for node in ast.walk(tree) if isinstance(node, kinds)]


def is_docstring(tree, node):
    return tree.body[0] is node and isinstance(node, ast.Expr) and isinstance(node.value, ast.Constant)


class Files(unittest.TestCase):
    def test_only_modules_with_plain_names(self):
        self.assertIn(PACKAGE / "__init__.py", FILES)
        for path in PACKAGE.iterdir():
            if path.name != "__pycache__":
                self.assertRegex(path.name, r"^([a-z][a-z0-9_]*|__init__|__main__)\.py$")
                self.assertFalse(path.stem in vars(builtins) or path.stem in BANNED_WORDS, path)
                self.assertFalse(path.stem.startswith("test"), path)

    def test_signs_and_sizes(self):
        for path in FILES:
            text = path.read_text(encoding="utf-8")
            self.assertRegex(text, r"\A[ -~\n]*\Z", path)
            self.assertLessEqual(len(text.splitlines()), 400, path)
            for line in text.splitlines():
                self.assertLessEqual(len(line), 120, (path, line))

    def test_words_that_stand_nowhere(self):
        for path in FILES:
            words = re.findall(r"[A-Za-z0-9_]+", path.read_text())
            self.assertEqual([word for word in words if word in BANNED_WORDS], [], path)
            for part in ("dataclass", "overload", "contextmanager"):
                self.assertNotIn(part, path.read_text(), path)


class Modules(unittest.TestCase):
    def test_the_top_of_a_module(self):
        for path, tree in trees():
            bound = []
            for node in tree.body:
                if is_docstring(tree, node):
                    continue
                self.assertIsInstance(node, (ast.ImportFrom, ast.FunctionDef, ast.ClassDef, ast.Assign), path)
                if isinstance(node, ast.Assign):
                    bound.append(node.targets[0].id)
                    for part in ast.walk(node.value):
                        if isinstance(part, ast.expr):
                            self.assertIsInstance(part, PLAIN, (path, node.lineno))
                elif isinstance(node, ast.ImportFrom):
                    bound.extend(alias.name for alias in node.names)
                else:
                    bound.append(node.name)
            self.assertEqual(len(bound), len(set(bound)), path)

    def test_imports_are_the_packages_own(self):
        drawn = {}
        for path, tree in trees():
            drawn[path.stem] = []
            for node in ast.walk(tree):
                if isinstance(node, ast.ImportFrom):
                    self.assertIn(node, tree.body, path)
                    self.assertEqual((node.level, node.module.split(".")[0]), (0, "fundincome"), path)
                    source = PACKAGE / (node.module.split(".")[1] + ".py")
                    defined = self.defined_in(source)
                    for alias in node.names:
                        self.assertIn(alias.name, defined, path)
                        self.assertIsNone(alias.asname, path)
                    drawn[path.stem].append(source.stem)
        self.assertEqual(drawn["__init__"], [])
        while drawn:
            free = [name for name in drawn if not any(other in drawn for other in drawn[name])]
            self.assertNotEqual(free, [], drawn)
            for name in free:
                del drawn[name]

    def defined_in(self, path):
        found = []
        for node in ast.parse(path.read_text()).body:
            if isinstance(node, (ast.FunctionDef, ast.ClassDef)):
                found.append(node.name)
            if isinstance(node, ast.Assign):
                found.append(node.targets[0].id)
        return found


class Code(unittest.TestCase):
    def test_statements_and_expressions(self):
        for path, tree in trees():
            for node in ast.walk(tree):
                if isinstance(node, ast.stmt):
                    self.assertIsInstance(node, STATEMENTS, (path, node.lineno))
                if isinstance(node, ast.expr):
                    self.assertIsInstance(node, EXPRESSIONS, (path, node.lineno))
                if isinstance(node, ast.Expr) and not is_docstring(tree, node):
                    self.assertIsInstance(node.value, ast.Call, (path, node.lineno))
                if isinstance(node, ast.Assign):
                    self.assertEqual(len(node.targets), 1, (path, node.lineno))
                    self.assertNotIsInstance(node.targets[0], (ast.Tuple, ast.List), (path, node.lineno))
                if isinstance(node, (ast.For, ast.While)):
                    self.assertEqual(node.orelse, [], (path, node.lineno))
                if isinstance(node, ast.ListComp):
                    self.assertEqual(len(node.generators), 1, (path, node.lineno))
                if isinstance(node, ast.Constant):
                    self.assertNotIsInstance(node.value, (float, complex, bytes), (path, node.lineno))
                self.assertNotIsInstance(node, (ast.Div, ast.Is, ast.IsNot, ast.MatMult), path)

    def test_functions(self):
        for path, node in nodes(ast.FunctionDef):
            self.assertLessEqual(node.end_lineno - node.lineno + 1, 40, (path, node.name))
            self.assertEqual(node.decorator_list, [], (path, node.name))
            self.assertEqual((node.args.vararg, node.args.kwarg, node.args.kwonlyargs), (None, None, []))
            self.assertEqual((node.args.posonlyargs, node.returns), ([], None))

    def test_classes(self):
        methods, values = set(), set()
        for path, node in nodes(ast.ClassDef):
            self.assertEqual((node.decorator_list, node.keywords), ([], []), path)
            for part in node.body:
                self.assertIsInstance(part, ast.FunctionDef, (path, part.lineno))
                methods.add(part.name)
        for path, node in nodes(ast.Attribute):
            if isinstance(node.ctx, ast.Store):
                values.add(node.attr)
        self.assertEqual(methods & values, set())
        taken = {name for kind in (str, int, list, dict, set, bytes) for name in dir(kind)}
        self.assertEqual((methods - {"__init__"} | values) & taken, set())

    def test_names(self):
        for path, tree in trees():
            outer = [node.name for node in tree.body if isinstance(node, ast.ClassDef)]
            outer += [alias.name for node in tree.body if isinstance(node, ast.ImportFrom) for alias in node.names]
            for node in ast.walk(tree):
                name = getattr(node, "id", None) or getattr(node, "arg", None) or getattr(node, "attr", None)
                if isinstance(node, (ast.FunctionDef, ast.ClassDef)):
                    name = node.name
                if name is None:
                    continue
                self.assertNotIn(name, BANNED_NAMES, path)
                self.assertTrue(re.match(r"[A-Za-z]\w*$", name) or name == "__init__", (path, name))
                is_bound = isinstance(node, ast.arg) or isinstance(getattr(node, "ctx", None), ast.Store)
                if is_bound and not isinstance(node, ast.Attribute):
                    self.assertFalse(name in vars(builtins) or name in outer, (path, name))
                elif isinstance(node, ast.Name) and name in vars(builtins):
                    self.assertIn(name, OWN_NAMES, path)

    def test_methods(self):
        own = {part.name for _, node in nodes(ast.ClassDef) for part in node.body}
        for path, node in nodes(ast.Call):
            if isinstance(node.func, ast.Attribute):
                self.assertIn(node.func.attr, own | set(OWN_METHODS), (path, node.lineno))


class Narrower(unittest.TestCase):
    """Where a rule has many cases the program does without what the rule is about."""

    def setUp(self):
        self.all_nodes = nodes(ast.AST)

    def calls(self):
        return [(path, node) for path, node in self.all_nodes if isinstance(node, ast.Call)]

    def test_what_the_program_does_without(self):
        kinds = (
            ast.Try, ast.Raise, ast.Lambda, ast.Set, ast.Pow, ast.JoinedStr, ast.keyword, ast.Starred, ast.AnnAssign)
        self.assertEqual([(path, ast.dump(node)) for path, node in nodes(*kinds)], [])
        self.assertEqual([path for path, node in nodes(ast.Name) if node.id in ("set", "frozenset")], [])
        for path, node in nodes(ast.FunctionDef):
            self.assertEqual([part for part in ast.walk(node) if isinstance(part, ast.FunctionDef)], [node], path)
            self.assertTrue(node.name == "__init__" or not node.name.startswith("_"), (path, node.name))

    def test_no_list_or_dict_at_the_top(self):
        for path, tree in trees():
            for node in tree.body:
                if isinstance(node, ast.Assign):
                    self.assertNotIsInstance(node.value, (ast.List, ast.Dict), (path, node.lineno))

    def test_texts(self):
        for path, node in nodes(ast.Constant):
            if isinstance(node.value, str):
                self.assertNotIn("%", node.value, (path, node.lineno))
        for path in FILES:
            self.assertNotIn("\\", path.read_text(), path)

    def test_names_that_are_only_called(self):
        classes = {node.name for _, node in nodes(ast.ClassDef)}
        methods = {part.name for _, node in nodes(ast.ClassDef) for part in node.body} | set(OWN_METHODS)
        called = {id(node.func) for path, node in self.calls()}
        for path, node in self.all_nodes:
            if isinstance(node, ast.Name) and node.id in classes | set(OWN_NAMES):
                self.assertIn(id(node), called, (path, node.lineno, node.id))
            if isinstance(node, ast.Attribute) and node.attr in methods:
                self.assertIn(id(node), called, (path, node.lineno, node.attr))

    def test_walked_on_the_spot(self):
        walked = {id(node.iter) for _, node in self.all_nodes if isinstance(node, (ast.For, ast.comprehension))}
        for path, node in self.calls():
            name = getattr(node.func, "id", None) or getattr(node.func, "attr", None)
            if name in ("zip", "enumerate", "reversed", "range", "items", "keys", "values"):
                self.assertIn(id(node), walked, (path, node.lineno))

    def test_what_a_loop_walks_is_not_changed_in_it(self):
        changes = ("append", "clear", "extend", "insert", "pop", "remove", "reverse", "setdefault", "update")
        for path, loop in nodes(ast.For):
            text = ast.unparse(loop.iter)
            for node in ast.walk(loop):
                if isinstance(node, ast.Attribute) and node.attr in changes:
                    self.assertNotEqual(ast.unparse(node.value), text, (path, node.lineno))
                if isinstance(node, (ast.Subscript, ast.Name, ast.Attribute)) and isinstance(node.ctx, ast.Store):
                    self.assertNotIn(ast.unparse(node).split("[")[0], text.split(), (path, node.lineno))

    def test_the_first_method_gives_nothing_back(self):
        for path, node in nodes(ast.FunctionDef):
            if node.name == "__init__":
                self.assertEqual([part for part in ast.walk(node) if isinstance(part, ast.Return)], [], path)

    def test_no_method_stands_twice(self):
        names = [part.name for _, node in nodes(ast.ClassDef) for part in node.body if part.name != "__init__"]
        self.assertEqual(len(names), len(set(names)), names)


if __name__ == "__main__":
    unittest.main()
