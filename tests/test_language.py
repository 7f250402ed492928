"""The package's files against those rules of LANGUAGE.md that a look at the text or the tree can tell."""

import ast
import builtins
import pathlib
import re
import unittest

PACKAGE = pathlib.Path(__file__).resolve().parent.parent / "hookhall"
FILES = sorted(PACKAGE.rglob("*.py"))

WORDS_OUT = re.compile(
    r"\b(type|typing|typing_extensions|enum|Enum|IntEnum|StrEnum|Flag|IntFlag|Generic|Protocol|ABC|ABCMeta"
    r"|namedtuple|NamedTuple|TypedDict|TYPE_CHECKING|abstractmethod)\b|dataclass|overload|contextmanager"
)
NAMES_IN = set(
    "len range enumerate zip min max sum abs sorted reversed int str bool list tuple dict set frozenset isinstance"
    " ord repr any all divmod Exception ValueError TypeError KeyError IndexError LookupError ZeroDivisionError"
    " ArithmeticError OverflowError RuntimeError NotImplementedError AttributeError StopIteration".split()
)
NAMES_OUT = set("register mro elements open input version_info with_traceback add_note format format_map".split())
OWN_METHODS = set("__init__ __eq__ __repr__ __str__ __len__".split())
METHODS_IN = set(
    "append clear copy count endswith extend find get index insert isalnum isalpha isdigit islower isspace isupper"
    " items join keys ljust lower lstrip partition pop remove replace reverse rfind rjust rpartition rsplit rstrip"
    " setdefault split splitlines startswith strip update upper values zfill bit_length".split()
)
KEYWORDS_IN = {
    "sorted": {"key", "reverse"}, "min": {"key", "default"}, "max": {"key", "default"},
    "sum": {"start"}, "enumerate": {"start"}, "zip": {"strict"},
}
PYTHONS_METHODS = {name for kind in (str, int, list, dict, set, tuple, bytes) for name in dir(kind)}
NODES_OUT = (
    ast.With, ast.Match, ast.Delete, ast.Global, ast.Nonlocal, ast.Assert, ast.Yield, ast.YieldFrom, ast.Await,
    ast.AsyncFunctionDef, ast.AsyncFor, ast.AsyncWith, ast.SetComp, ast.DictComp, ast.GeneratorExp, ast.NamedExpr,
    ast.Starred, ast.Div, ast.Import, ast.MatMult, ast.AnnAssign,
)


def files_and_trees():
    return [(path, ast.parse(path.read_text())) for path in FILES]


def nodes(tree, *sorts):
    return [node for node in ast.walk(tree) if isinstance(node, sorts)]


class Language(unittest.TestCase):
    def test_only_plain_python_files(self):
        self.assertIn(PACKAGE / "__init__.py", FILES)
        for path in PACKAGE.rglob("*"):
            if "__pycache__" not in path.parts:
                self.assertRegex(path.name, r"\A([a-z][a-z0-9_]*|__init__|__main__)\.py\Z")

    def test_signs_and_sizes(self):
        for path, tree in files_and_trees():
            with self.subTest(file=path.name):
                text = path.read_text()
                self.assertRegex(text, r"\A[ -~\n]*\Z")
                lines = text.splitlines()
                self.assertLessEqual(len(lines), 400)
                self.assertLessEqual(max(len(line) for line in lines), 120)
                for node in nodes(tree, ast.FunctionDef):
                    self.assertLessEqual(node.end_lineno - node.lineno + 1, 40, node.name)

    def test_words(self):
        for path, tree in files_and_trees():
            with self.subTest(file=path.name):
                self.assertIsNone(WORDS_OUT.search(path.read_text()))

    def test_imports(self):
        for path, tree in files_and_trees():
            with self.subTest(file=path.name):
                for node in nodes(tree, ast.ImportFrom):
                    self.assertIn(node, tree.body)
                    self.assertEqual(node.level, 0)
                    self.assertTrue(node.module.startswith("hookhall."))
                    self.assertNotIn("*", [alias.name for alias in node.names])

    def test_forms(self):
        for path, tree in files_and_trees():
            with self.subTest(file=path.name):
                for node in nodes(tree, *NODES_OUT):
                    self.fail(ast.dump(node))
                for node in nodes(tree, ast.FunctionDef, ast.ClassDef):
                    self.assertEqual(node.decorator_list, [])
                for node in nodes(tree, ast.Assign):
                    self.assertEqual(len(node.targets), 1)
                for node in nodes(tree, ast.For, ast.While):
                    self.assertEqual(node.orelse, [])
                for node in nodes(tree, ast.Constant):
                    self.assertNotIsInstance(node.value, (float, complex, bytes))

    def test_parameters(self):
        for path, tree in files_and_trees():
            with self.subTest(file=path.name):
                for node in nodes(tree, ast.arguments):
                    self.assertEqual((node.vararg, node.kwarg, node.kwonlyargs, node.posonlyargs), (None, None, [], []))
                    for parameter in node.args:
                        self.assertFalse(hasattr(builtins, parameter.arg), parameter.arg)

    def test_names(self):
        for path, tree in files_and_trees():
            with self.subTest(file=path.name):
                for node in nodes(tree, ast.Name):
                    self.assertFalse(node.id.startswith("_"), node.id)
                    if hasattr(builtins, node.id):
                        self.assertIn(node.id, NAMES_IN)
                        self.assertIsInstance(node.ctx, ast.Load)
                for node in nodes(tree, ast.FunctionDef):
                    self.assertTrue(not node.name.startswith("_") or node.name in OWN_METHODS, node.name)

    def test_is_beside_none_true_and_false_alone(self):
        for path, tree in files_and_trees():
            with self.subTest(file=path.name):
                for node in nodes(tree, ast.Compare):
                    for sign, right in zip(node.ops, node.comparators):
                        if isinstance(sign, (ast.Is, ast.IsNot)):
                            self.assertIn(ast.unparse(right), ("None", "True", "False"))

    def test_texts(self):
        for path, tree in files_and_trees():
            with self.subTest(file=path.name):
                for node in nodes(tree, ast.FormattedValue):
                    self.assertIsInstance(node.value, ast.Name)
                    self.assertIsNone(node.format_spec)
                for node in nodes(tree, ast.Constant):
                    if isinstance(node.value, str):
                        self.assertNotIn("%", node.value)

    def test_each_name_once_at_the_top(self):
        for path, tree in files_and_trees():
            with self.subTest(file=path.name):
                bound = []
                for node in tree.body:
                    if isinstance(node, ast.ImportFrom):
                        bound.extend(alias.asname or alias.name for alias in node.names)
                    elif isinstance(node, (ast.FunctionDef, ast.ClassDef)):
                        bound.append(node.name)
                    elif isinstance(node, ast.Assign):
                        bound.append(node.targets[0].id)
                self.assertEqual(len(bound), len(set(bound)))
                # Narrower than the rule: no local is called like a function of its file either.
                local = [node.id for node in nodes(tree, ast.Name) if isinstance(node.ctx, ast.Store)]
                local = [name for name in local if not name.isupper()] + [node.arg for node in nodes(tree, ast.arg)]
                self.assertEqual(sorted(set(local) & set(bound)), [])

    def test_no_two_files_draw_from_one_another(self):
        drawn = {}
        for path, tree in files_and_trees():
            drawn["hookhall." + path.stem] = {node.module for node in nodes(tree, ast.ImportFrom)}
        while drawn:
            ready = [name for name, others in drawn.items() if not others & set(drawn)]
            self.assertNotEqual(ready, [], drawn)
            for name in ready:
                drawn.pop(name)

    def test_keywords_at_pythons_own(self):
        for path, tree in files_and_trees():
            with self.subTest(file=path.name):
                for node in nodes(tree, ast.Call):
                    if isinstance(node.func, ast.Name) and hasattr(builtins, node.func.id):
                        told = {keyword.arg for keyword in node.keywords}
                        self.assertLessEqual(told, KEYWORDS_IN.get(node.func.id, set()))

    def test_sets_are_not_written_out(self):
        for path, tree in files_and_trees():
            with self.subTest(file=path.name):
                self.assertEqual(nodes(tree, ast.Set), [])

    def test_methods_and_values(self):
        methods, kept = {}, {}
        for path, tree in files_and_trees():
            with self.subTest(file=path.name):
                for node in nodes(tree, ast.Attribute):
                    self.assertNotIn(node.attr, NAMES_OUT)
                    self.assertTrue(not node.attr.startswith("_") or node.attr in OWN_METHODS, node.attr)
                    if node.attr in PYTHONS_METHODS - OWN_METHODS:
                        self.assertIn(node.attr, METHODS_IN)
                    if isinstance(node.ctx, ast.Store):
                        self.assertIsInstance(node.value, ast.Name)
                        kept[node.attr] = path.name
                for node in nodes(tree, ast.ClassDef):
                    self.assertLessEqual(len(node.bases), 1)
                    methods.update((part.name, path.name) for part in node.body if isinstance(part, ast.FunctionDef))
        self.assertEqual(sorted(set(methods) & set(kept)), [])


if __name__ == "__main__":
    unittest.main()
