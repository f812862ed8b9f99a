"""The package's files keep to LANGUAGE.md: what of its rules can be seen in a file, by the rules' numbers."""

import ast
import builtins
import io
import pathlib
import re
import tokenize
import unittest

PACKAGE = pathlib.Path(__file__).resolve().parent.parent / "lazycols"

CALLED = """len range enumerate zip min max sum abs sorted reversed int str bool list tuple dict set frozenset isinstance
ord repr any all divmod""".split()
ERRORS = """Exception ValueError TypeError KeyError IndexError LookupError ZeroDivisionError ArithmeticError OverflowError
RuntimeError NotImplementedError AttributeError StopIteration""".split()
METHODS = """append clear copy count endswith extend find get index insert isalnum isalpha isdigit islower isspace isupper
items join keys ljust lower lstrip partition pop remove replace reverse rfind rjust rpartition rsplit rstrip setdefault
split splitlines startswith strip update upper values zfill bit_length""".split()
BARRED_WORDS = """type typing typing_extensions enum Enum IntEnum StrEnum Flag IntFlag Generic Protocol ABC ABCMeta
namedtuple NamedTuple TypedDict TYPE_CHECKING abstractmethod""".split()
BARRED_PARTS = ["dataclass", "overload", "contextmanager"]
BARRED_NAMES = """register mro elements open input version_info with_traceback add_note format format_map attrgetter
breakpoint builtins compile copyright credits delattr dir eval exec exit gc getattr globals hasattr help id importlib
license locals methodcaller os quit setattr super vars sys chr""".split()
DUNDERS = ["__init__", "__eq__", "__repr__", "__str__", "__len__"]
WALKS = ["zip", "enumerate", "reversed", "range", "items", "keys", "values"]
WALKERS = "list tuple dict sorted sum any all enumerate zip min max join".split()
CHANGING = "append clear extend insert pop remove reverse setdefault update".split()
KEYWORDS = {"sorted": ["key", "reverse"], "min": ["key", "default"], "max": ["key", "default"], "sum": ["start"],
            "enumerate": ["start"], "zip": ["strict"]}
OWN_VALUES = "count index title find get join lower upper split strip copy add".split()

STATEMENTS = (
    ast.Assign, ast.AugAssign, ast.If, ast.While, ast.For, ast.Return, ast.Break, ast.Continue, ast.Pass, ast.Raise,
    ast.Try, ast.Expr, ast.FunctionDef, ast.ClassDef, ast.ImportFrom,
)
EXPRESSIONS = (
    ast.Constant, ast.List, ast.Tuple, ast.Dict, ast.Set, ast.BinOp, ast.UnaryOp, ast.Compare, ast.BoolOp, ast.IfExp,
    ast.Call, ast.Attribute, ast.Subscript, ast.Slice, ast.ListComp, ast.JoinedStr, ast.FormattedValue, ast.Name,
    ast.Lambda,
)


def files():
    return sorted(path for path in PACKAGE.rglob("*") if path.is_file() and "__pycache__" not in path.parts)


def tree_of(path):
    return ast.parse(path.read_text(encoding="utf-8"))


def nodes_of(path, *kinds):
    return [node for node in ast.walk(tree_of(path)) if isinstance(node, kinds)]


def bound_at_top(tree):
    """The names that a file defines itself."""
    names = [node.name for node in tree.body if isinstance(node, (ast.FunctionDef, ast.ClassDef))]
    return names + [target.id for node in tree.body if isinstance(node, ast.Assign) for target in node.targets]


def drawn(tree):
    """What a file imports: pairs of a file's name and a name in it."""
    rows = [node for node in tree.body if isinstance(node, ast.ImportFrom)]
    return [(row.module.partition(".")[2], alias.name) for row in rows for alias in row.names]


def methods_of(kind):
    return [node.name for node in kind.body if isinstance(node, ast.FunctionDef)]


def with_parents(path):
    """Pairs of a node and the one right above it."""
    return [(node, above) for above in ast.walk(tree_of(path)) for node in ast.iter_child_nodes(above)]


def called_name(node):
    """The name or the method that a call calls; of anything else nothing."""
    if isinstance(node, ast.Call) and isinstance(node.func, ast.Name):
        return node.func.id
    return node.func.attr if isinstance(node, ast.Call) and isinstance(node.func, ast.Attribute) else None


def changes_of(loop):
    """The texts of what the body of a loop changes, by a method or an index."""
    nodes = [node for row in loop.body for node in ast.walk(row)]
    dotted = [node.func for node in nodes if called_name(node) in CHANGING and isinstance(node.func, ast.Attribute)]
    stored = [node for node in nodes if isinstance(node, ast.Subscript) and isinstance(node.ctx, ast.Store)]
    return [ast.unparse(node.value) for node in dotted + stored]


def is_plain(node, functions):
    """A value as a file's top may hold it: no list and no dict within another thing."""
    if isinstance(node, (ast.List, ast.Dict)):
        parts = node.elts if isinstance(node, ast.List) else node.keys + node.values
        return not [part for part in parts if isinstance(part, (ast.List, ast.Dict)) or not is_plain(part, functions)]
    if isinstance(node, ast.Tuple):
        return not [part for part in node.elts if isinstance(part, (ast.List, ast.Dict)) or not is_plain(part, functions)]
    if isinstance(node, ast.UnaryOp):
        return isinstance(node.operand, ast.Constant)
    return isinstance(node, ast.Constant) or isinstance(node, ast.Name) and node.id in functions


def is_read(node, above):
    """A list or dict of a file's top, where it is only read."""
    if isinstance(above, ast.Subscript):
        return isinstance(above.ctx, ast.Load) and above.value == node
    if isinstance(above, ast.Attribute):
        return above.attr in ("get", "items", "keys", "values", "index", "count")
    walked = isinstance(above, (ast.For, ast.comprehension)) and above.iter == node
    return walked or isinstance(above, ast.Compare) or called_name(above) in ("len", "list", "dict", "tuple", "sorted")


class Language(unittest.TestCase):
    def never(self, wrong, *kinds):
        """No node of these kinds, in any file, is wrong; those that are get told by file and line."""
        found = []
        for path in files():
            for node in nodes_of(path, *kinds):
                if wrong(node):
                    found.append(f"{path.name}:{node.lineno}")
        self.assertEqual(found, [])

    def test_l1_l14_files(self):
        self.assertTrue((PACKAGE / "__init__.py").is_file())
        for path in files():
            with self.subTest(file=path.name):
                self.assertRegex(path.name, r"\A(__init__|__main__|[a-z][a-z0-9_]*)\.py\Z")
                self.assertNotIn(path.stem, dir(builtins) + BARRED_WORDS)
                self.assertNotRegex(path.stem, r"\A(test|tests|testing|test_.*|site|conftest|\w+customize)\Z")
                self.assertRegex(path.read_bytes().decode("ascii"), r"\A[\n -~]*\Z")

    def test_l2_l16_imports(self):
        self.never(lambda row: row.level or row.col_offset or not row.module.startswith("lazycols."), ast.ImportFrom)
        left = {}
        for path in files():
            left[path.stem] = {module for module, name in drawn(tree_of(path))}
            for module, name in drawn(tree_of(path)):
                with self.subTest(file=path.name, module=module, name=name):
                    self.assertIn(name, bound_at_top(tree_of(PACKAGE / (module + ".py"))))
        while left:
            free = [stem for stem in left if not left[stem] & set(left)]
            self.assertTrue(free, "files draw from one another")
            left = {stem: left[stem] for stem in left if stem not in free}

    def test_l3_l15_tops(self):
        for path in files():
            tree = tree_of(path)
            names = bound_at_top(tree) + [name for module, name in drawn(tree)]
            with self.subTest(file=path.name):
                self.assertEqual(len(names), len(set(names)))
                self.assertIsNotNone(ast.get_docstring(tree))
                functions = []
                for node in tree.body[1:]:
                    self.assertIsInstance(node, (ast.ImportFrom, ast.Assign, ast.FunctionDef, ast.ClassDef))
                    if isinstance(node, ast.FunctionDef):
                        functions.append(node.name)
                    self.assertTrue(not isinstance(node, ast.Assign) or is_plain(node.value, functions), ast.unparse(node))

    def test_l15_tops_are_only_read(self):
        for path in files():
            held = [node for node in tree_of(path).body if isinstance(node, ast.Assign)]
            kept = [node.targets[0].id for node in held if isinstance(node.value, (ast.List, ast.Dict))]
            for node, above in with_parents(path):
                if isinstance(node, ast.Name) and isinstance(node.ctx, ast.Load) and node.id in kept:
                    with self.subTest(file=path.name, line=node.lineno, name=node.id):
                        self.assertTrue(is_read(node, above))

    def test_l4_l21_functions(self):
        def wrong(function):
            given = function.args
            starred = given.vararg or given.kwarg or given.kwonlyargs or given.posonlyargs
            noted = [argument for argument in given.args if argument.annotation]
            odd = [value for value in given.defaults if not isinstance(value, (ast.Constant, ast.Tuple, ast.UnaryOp))]
            dressed = getattr(function, "decorator_list", []) or getattr(function, "returns", None)
            return starred or noted or odd or dressed

        self.never(wrong, ast.FunctionDef, ast.Lambda)

    def test_l5_classes(self):
        def wrong(kind):
            others = [node for node in kind.body if not isinstance(node, (ast.FunctionDef, ast.Pass))]
            methods = methods_of(kind)
            return others or kind.decorator_list or kind.keywords or len(kind.bases) > 1 or len(methods) > len(set(methods))

        self.never(wrong, ast.ClassDef)

    def test_l6_statements(self):
        def wrong(node):
            if isinstance(node, ast.Assign):
                return len(node.targets) > 1 or isinstance(node.targets[0], (ast.Tuple, ast.List))
            if isinstance(node, (ast.For, ast.While)):
                return node.orelse
            if isinstance(node, ast.Try):
                return node.finalbody
            if isinstance(node, ast.Expr):
                return node.lineno > 1 and not isinstance(node.value, ast.Call)
            return not isinstance(node, STATEMENTS)

        self.never(wrong, ast.stmt)

    def test_l7_l24_l27_expressions(self):
        def wrong(node):
            if isinstance(node, ast.Constant):
                return not isinstance(node.value, (int, str, type(None))) or chr(37) in str(node.value)
            if isinstance(node, ast.ListComp):
                return len(node.generators) > 1 or len(node.generators[0].ifs) > 1
            if isinstance(node, ast.FormattedValue):
                return not isinstance(node.value, ast.Name) or node.format_spec
            if isinstance(node, ast.BinOp) and isinstance(node.op, ast.Pow):
                return not isinstance(node.right, ast.Constant) or not 0 <= node.right.value <= 64
            if isinstance(node, ast.BinOp):
                return isinstance(node.op, (ast.Div, ast.MatMult))
            if isinstance(node, ast.Set):
                return len(node.elts) > 2
            return not isinstance(node, EXPRESSIONS)

        self.never(wrong, ast.expr)

    def test_l8_l12_l17_names(self):
        for path in files():
            for token in tokenize.generate_tokens(io.StringIO(path.read_text()).readline):
                if token.type == tokenize.NAME:
                    with self.subTest(file=path.name, line=token.start[0], name=token.string):
                        self.assertNotIn(token.string, BARRED_NAMES)
                        self.assertTrue(token.string in DUNDERS or not token.string.startswith("_"))
                        if token.string in dir(builtins):
                            self.assertIn(token.string, CALLED + ERRORS + ["True", "False", "None"])

    def test_l10_size(self):
        for path in files():
            rows = path.read_text().split("\n")
            with self.subTest(file=path.name):
                self.assertLessEqual(len(rows), 400)
                self.assertLessEqual(max(len(row) for row in rows), 120)
        self.never(lambda function: function.end_lineno - function.lineno >= 40, ast.FunctionDef)

    def test_l13_lambdas(self):
        for path in files():
            found = [(node.lineno, ast.unparse(node.args)) for node in nodes_of(path, ast.Lambda)]
            with self.subTest(file=path.name):
                self.assertEqual(len(found), len(set(found)))

    def test_l22_keywords(self):
        self.never(lambda node: [
            given.arg for given in node.keywords if given.arg not in KEYWORDS.get(called_name(node), [])], ast.Call)

    def test_l23_walked_at_once(self):
        for path in files():
            for node, above in with_parents(path):
                if called_name(node) in WALKS:
                    walked = isinstance(above, (ast.For, ast.comprehension)) and above.iter == node
                    with self.subTest(file=path.name, line=node.lineno):
                        self.assertTrue(walked or called_name(above) in WALKERS and above.args[0] == node)

    def test_l23_nothing_walked_is_changed(self):
        self.never(lambda loop: ast.unparse(loop.iter) in changes_of(loop), ast.For)

    def test_l24_sets(self):
        for path in files():
            for node, above in with_parents(path):
                if called_name(node) in ("set", "frozenset"):
                    with self.subTest(file=path.name, line=node.lineno):
                        self.assertTrue(isinstance(above, (ast.Compare, ast.BinOp)) or called_name(above) in ("len", "sorted"))

    def test_l25_methods_are_not_handed_on(self):
        kinds = [kind for path in files() for kind in nodes_of(path, ast.ClassDef)]
        methods = set(METHODS) | {name for kind in kinds for name in methods_of(kind)}
        for path in files():
            stored = [node for node in nodes_of(path, ast.Attribute) if isinstance(node.ctx, ast.Store)]
            for node, above in with_parents(path):
                if isinstance(node, ast.Attribute) and node.attr in methods - {kept.attr for kept in stored}:
                    with self.subTest(file=path.name, line=node.lineno, name=node.attr):
                        self.assertTrue(isinstance(above, ast.keyword) or isinstance(above, ast.Call) and above.func == node)

    def test_l28_init_gives_back_nothing(self):
        self.never(
            lambda made: made.name == "__init__" and [node for node in ast.walk(made) if isinstance(node, ast.Return)],
            ast.FunctionDef)

    def test_l15_nothing_given_another_meaning(self):
        for path in files():
            tree = tree_of(path)
            taken = dir(builtins) + [name for module, name in drawn(tree)]
            taken = taken + [node.name for node in tree.body if isinstance(node, (ast.ClassDef, ast.FunctionDef))]
            bound = [argument.arg for argument in nodes_of(path, ast.arg)]
            bound = bound + [node.id for node in nodes_of(path, ast.Name) if isinstance(node.ctx, ast.Store)]
            with self.subTest(file=path.name):
                self.assertEqual([name for name in bound if name in taken], [])

    def test_l17_words(self):
        for path in files():
            text = path.read_text()
            with self.subTest(file=path.name):
                self.assertEqual(set(re.findall(r"\w+", text)) & set(BARRED_WORDS), set())
                self.assertEqual([part for part in BARRED_PARTS if part in text], [])

    def test_l18_l25_l26_methods_and_values(self):
        kinds = [kind for path in files() for kind in nodes_of(path, ast.ClassDef)]
        methods = {name for kind in kinds for name in methods_of(kind)}
        dotted = [node for path in files() for node in nodes_of(path, ast.Attribute)]
        values = {node.attr for node in dotted if isinstance(node.ctx, ast.Store)}
        theirs = {name for kind in (str, int, list, dict, set, bytes, tuple) for name in dir(kind)} | {"args"}
        self.assertEqual(methods & values, set())
        self.assertEqual((values & theirs) - set(OWN_VALUES), set())
        self.assertEqual((methods & theirs) - set(METHODS) - set(DUNDERS) - {"add", "discard"}, set())
        self.assertEqual({node.attr for node in dotted} - methods - values - set(METHODS), set())

    def test_l19_errors(self):
        self.never(lambda node: not isinstance(node.type, ast.Name), ast.ExceptHandler)
        self.never(lambda node: node.type.id in ("Exception", "TypeError"), ast.ExceptHandler)
        self.never(lambda node: not isinstance(node.exc, ast.Call), ast.Raise)

    def test_l20_is(self):
        def wrong(node):
            beside = [isinstance(thing, ast.Constant) and thing.value in (None, True, False) for thing in node.comparators]
            return [sign for sign in node.ops if isinstance(sign, (ast.Is, ast.IsNot))] and not all(beside)

        self.never(wrong, ast.Compare)


if __name__ == "__main__":
    unittest.main()
