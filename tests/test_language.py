"""What of shared/LANGUAGE.md a test can tell: the numbers of its rules stand in the names and messages."""

import ast
import builtins
import pathlib
import re
import unittest

from firstbore import plans

PACKAGE = pathlib.Path(plans.__file__).parent
BARRED_WORDS = (
    "type typing typing_extensions enum Enum IntEnum StrEnum Flag IntFlag Generic Protocol ABC ABCMeta namedtuple "
    "NamedTuple TypedDict TYPE_CHECKING abstractmethod"
).split()
BARRED_NAMES = (
    "register mro elements open input law version_info with_traceback add_note attrgetter breakpoint builtins compile "
    "copyright credits delattr dir eval exec exit gc getattr globals hasattr help id importlib license locals "
    "methodcaller os quit setattr super type vars sys __name__"
).split()
BUILTINS = (
    "len range enumerate zip min max sum abs sorted reversed int str bool bytes list tuple dict set isinstance ord repr "
    "any all divmod Exception ValueError TypeError KeyError IndexError LookupError ZeroDivisionError property classmethod "
    "staticmethod"
).split()
METHODS = (
    "append clear copy count endswith extend find get index insert isalnum isalpha isdigit islower isspace isupper items "
    "join keys ljust lower lstrip partition pop remove replace reverse rfind rjust rpartition rsplit rstrip setdefault "
    "split splitlines startswith strip update upper values zfill bit_length"
).split()
STATEMENTS = (
    ast.Assign, ast.AugAssign, ast.If, ast.While, ast.For, ast.Return, ast.Break, ast.Continue, ast.Pass, ast.Raise,
    ast.Assert, ast.Delete, ast.Try, ast.Expr, ast.FunctionDef, ast.ClassDef, ast.ImportFrom,
)
SIMPLE = (ast.Name, ast.Attribute, ast.Tuple, ast.Load, ast.Store, ast.Assign, ast.Constant)


def stored_names(tree):
    """Return all names that a tree binds: variables, parameters, functions and classes."""
    names = [node.id for node in ast.walk(tree) if isinstance(node, ast.Name) and not isinstance(node.ctx, ast.Load)]
    names += [node.arg for node in ast.walk(tree) if isinstance(node, ast.arg)]
    return names + [node.name for node in ast.walk(tree) if isinstance(node, (ast.FunctionDef, ast.ClassDef))]


class Language(unittest.TestCase):
    def setUp(self):
        self.texts = {path.name: path.read_text() for path in sorted(PACKAGE.glob("*.py"))}
        self.trees = {name: ast.parse(text) for name, text in self.texts.items()}

    def nodes(self, *kinds):
        """Return (file and line, node) for all nodes of some kinds."""
        rows = []
        for name, tree in self.trees.items():
            for node in ast.walk(tree):
                if isinstance(node, kinds):
                    rows.append((f"{name} {getattr(node, 'lineno', '')}", node))
        return rows

    def test_l1_l14_folder_contains_only_source(self):
        names = [path.name for path in PACKAGE.iterdir() if path.name != "__pycache__"]
        self.assertEqual(sorted(names), sorted(self.texts))
        for name in names:
            self.assertRegex(name, r"^[a-z0-9_]+\.py$")
            self.assertNotIn(name[:-3], dir(builtins) + BARRED_WORDS)

    def test_l10_l14_characters_and_sizes(self):
        for name, text in self.texts.items():
            with self.subTest(file=name):
                self.assertTrue(all(sign == "\n" or " " <= sign <= "~" for sign in text))
                lines = text.split("\n")
                self.assertLessEqual(len(lines), 399)
                self.assertLessEqual(max(len(line) for line in lines), 120)
        for place, node in self.nodes(ast.FunctionDef):
            self.assertLessEqual(node.end_lineno - node.lineno + 1, 40, place)

    def test_l17_barred_words_and_names(self):
        for name, text in self.texts.items():
            words = re.findall(r"\w+", text)
            for word in BARRED_WORDS:
                self.assertNotIn(word, words, name)
            for part in ("dataclass", "overload", "contextmanager"):
                self.assertNotIn(part, text, name)
            for word in stored_names(self.trees[name]):
                self.assertNotIn(word, BARRED_NAMES, name)

    def test_l2_l16_imports(self):
        imported = {}
        for name, tree in self.trees.items():
            imported[name] = []
            for node in ast.walk(tree):
                self.assertNotIsInstance(node, ast.Import, name)
                if isinstance(node, ast.ImportFrom):
                    self.assertEqual(node.level, 0, name)
                    self.assertRegex(node.module, r"^firstbore\.[a-z]+$", name)
                    file = node.module.split(".")[1] + ".py"
                    imported[name].append(file)
                    defined = [one.name for one in self.trees[file].body if isinstance(one, (ast.FunctionDef, ast.ClassDef))]
                    for alias in node.names:
                        self.assertIn(alias.name, defined, name)
                        self.assertIsNone(alias.asname, name)
        # Without a ring: file by file those go that import only what has gone.
        gone = []
        while len(gone) < len(imported):
            free = [name for name in imported if name not in gone and set(imported[name]) <= set(gone)]
            self.assertNotEqual(free, [])
            gone += free

    def test_imports_are_used(self):
        for name, tree in self.trees.items():
            used = {node.id for node in ast.walk(tree) if isinstance(node, ast.Name)}
            for node in ast.walk(tree):
                if isinstance(node, ast.ImportFrom):
                    self.assertTrue({alias.name for alias in node.names} <= used, name)

    def test_functions_are_used_or_listed(self):
        document = (PACKAGE.parent.parent / "shared" / "DOC.md")
        listed = document.read_text() if document.exists() else None
        words = [word for text in self.texts.values() for word in re.findall(r"\w+", text)]
        for place, node in self.nodes(ast.FunctionDef):
            if words.count(node.name) < 2 and listed is not None and not node.name.startswith("__"):
                self.assertIn(node.name, listed, place)

    def test_l3_module_level(self):
        for name, tree in self.trees.items():
            for node in tree.body[1:]:
                self.assertIsInstance(node, (ast.ImportFrom, ast.FunctionDef, ast.ClassDef, ast.Assign), name)
            self.assertIsNotNone(ast.get_docstring(tree), name)
        for place, node in self.nodes(ast.FunctionDef, ast.ClassDef):
            if not node.name.startswith("__"):
                self.assertIsNotNone(ast.get_docstring(node), place)

    def test_l4_l12_parameters_and_names(self):
        for name, tree in self.trees.items():
            for word in stored_names(tree):
                self.assertRegex(word, r"^([A-Za-z][A-Za-z0-9_]*|__(init|eq|str|len)__)$", name)
        for place, node in self.nodes(ast.arguments):
            self.assertEqual((node.posonlyargs, node.vararg, node.kwarg, node.kwonlyargs), ([], None, None, []), place)
        for place, node in self.nodes(ast.FunctionDef, ast.ClassDef):
            for decorator in node.decorator_list:
                self.assertIn(decorator.id, ("property", "classmethod"), place)

    def test_l6_l7_statements_and_expressions(self):
        for place, node in self.nodes(ast.stmt):
            self.assertIsInstance(node, STATEMENTS, place)
        barred = (ast.GeneratorExp, ast.Yield, ast.YieldFrom, ast.Await, ast.NamedExpr, ast.Div, ast.MatMult, ast.Set)
        for place, node in self.nodes(*barred):
            self.fail(f"{place} {node}")
        for place, node in self.nodes(ast.Constant):
            self.assertNotIsInstance(node.value, (float, complex), place)

    def test_l8_l15_names(self):
        for name, tree in self.trees.items():
            own = [node.name for node in tree.body if isinstance(node, (ast.FunctionDef, ast.ClassDef))]
            own += [alias.name for node in tree.body if isinstance(node, ast.ImportFrom) for alias in node.names]
            own += [target.id for node in tree.body if isinstance(node, ast.Assign) for target in node.targets]
            self.assertEqual(len(own), len(set(own)), name)
            self.assertEqual(set(own) & set(dir(builtins)), set(), name)
            bound = set(own) | set(stored_names(tree))
            for node in ast.walk(tree):
                if isinstance(node, ast.Name) and isinstance(node.ctx, ast.Load) and node.id not in bound:
                    self.assertIn(node.id, BUILTINS, name)
            self.check_locals(name, tree)

    def check_locals(self, name, tree):
        """No parameter or local variable has the name of a class, an import or a builtin."""
        taken = set(dir(builtins)) | {node.name for node in tree.body if isinstance(node, ast.ClassDef)}
        taken |= {alias.name for node in tree.body if isinstance(node, ast.ImportFrom) for alias in node.names}
        for function in ast.walk(tree):
            if isinstance(function, (ast.FunctionDef, ast.Lambda)):
                local = [node.arg for node in ast.walk(function) if isinstance(node, ast.arg)]
                local += [n.id for n in ast.walk(function) if isinstance(n, ast.Name) and isinstance(n.ctx, ast.Store)]
                self.assertEqual(set(local) & taken, set(), name)

    def test_l15_tables_are_only_read(self):
        for name, tree in self.trees.items():
            for node in tree.body:
                if isinstance(node, ast.Assign):
                    for part in ast.walk(node.value):
                        self.assertNotIsInstance(part, (ast.Call, ast.List, ast.ListComp, ast.BinOp), name)

    def test_l18_methods_and_attributes(self):
        methods, stored, properties = [], [], []
        for place, node in self.nodes(ast.ClassDef):
            for one in node.body:
                if isinstance(one, ast.FunctionDef):
                    kind = properties if [d.id for d in one.decorator_list] == ["property"] else methods
                    kind.append(one.name)
        for place, node in self.nodes(ast.Attribute):
            if isinstance(node.ctx, ast.Store):
                self.assertEqual(node.value.id, "self", place)
                stored.append(node.attr)
        for one, other in ((methods, stored), (methods, properties), (properties, stored)):
            self.assertEqual(set(one) & set(other), set())
        self.assertEqual(set(properties + stored) & set(METHODS + BARRED_NAMES + ["sort", "args", "hex", "format"]), set())
        for place, node in self.nodes(ast.Attribute):
            self.assertIn(node.attr, methods + stored + properties + METHODS, place)

    def test_l19_errors(self):
        own = [one.name for one in self.trees["errors.py"].body if isinstance(one, ast.ClassDef)]
        for place, node in self.nodes(ast.Raise):
            self.assertIsInstance(node.exc, ast.Call, place)
            self.assertIn(node.exc.func.id, own, place)
            self.assertIsNone(node.cause, place)
        for place, node in self.nodes(ast.Try):
            self.assertEqual(node.handlers, [], place)
            for statement in node.finalbody:
                for part in ast.walk(statement):
                    self.assertIsInstance(part, SIMPLE, place)

    def test_l20_is(self):
        for place, node in self.nodes(ast.Compare):
            for operator, right in zip(node.ops, node.comparators):
                if isinstance(operator, (ast.Is, ast.IsNot)):
                    self.assertIsInstance(right, ast.Constant, place)
                    self.assertIn(right.value, (None, True, False), place)

    def test_l22_l23_builtins_that_are_called(self):
        at_once = ("list", "tuple", "dict", "sorted", "sum", "any", "all", "enumerate", "zip", "min", "max")
        allowed = set()
        for place, node in self.nodes(ast.For, ast.comprehension, ast.Call):
            if not isinstance(node, ast.Call):
                allowed.add(id(node.iter))
            elif isinstance(node.func, ast.Name) and node.func.id in at_once:
                allowed |= {id(argument) for argument in node.args[:None if node.func.id == "zip" else 1]}
        for place, node in self.nodes(ast.Call):
            if isinstance(node.func, ast.Name) and node.func.id in ("zip", "enumerate", "reversed", "range"):
                self.assertIn(id(node), allowed, place)
            if isinstance(node.func, ast.Attribute) and node.func.attr in ("items", "keys", "values"):
                self.assertIn(id(node), allowed, place)
            for star in [one for one in node.args if isinstance(one, ast.Starred)]:
                self.assertIsInstance(star.value, ast.Name, place)

    def test_l24_sets_stand_in_sorted(self):
        found = set()
        for place, node in self.nodes(ast.Call):
            if getattr(node.func, "id", "") in ("sorted", "len"):
                found.add(id(node.args[0]))
        for place, node in self.nodes(ast.Call):
            if getattr(node.func, "id", "") in ("set", "frozenset"):
                self.assertIn(id(node), found, place)
        self.assertEqual(self.nodes(ast.SetComp), [])

    def test_l27_strings(self):
        for place, node in self.nodes(ast.Constant):
            if isinstance(node.value, str):
                self.assertNotIn("%", node.value, place)
                self.assertNotRegex(node.value, r"(\._|\.__)$", place)
                self.assertNotRegex(node.value, r"^__.*__$", place)
        for name, text in self.texts.items():
            self.assertEqual(set(re.findall(r"\\(.)", text)) - {"n", "t", "\\", '"'}, set(), name)
        for place, node in self.nodes(ast.BinOp):
            if isinstance(node.op, ast.Pow):
                self.assertIsInstance(node.right, ast.Constant, place)

    def test_l28_double_underscore_methods(self):
        for place, node in self.nodes(ast.FunctionDef):
            if node.name == "__init__":
                self.assertEqual([one for one in ast.walk(node) if isinstance(one, ast.Return)], [], place)
            if node.name == "__len__":
                self.assertEqual([one.value.func.id for one in ast.walk(node) if isinstance(one, ast.Return)], ["len"], place)


if __name__ == "__main__":
    unittest.main()
