"""The form of the code: those rules of the language subset that are easily broken by mistake."""

import ast
import builtins
import pathlib
import re
import unittest

FOLDER = pathlib.Path(__file__).resolve().parent.parent / "enoughpaid"
BUILTINS = set(
    "len range enumerate zip min max sum abs sorted reversed int str bool list tuple dict set frozenset isinstance "
    "ord repr any all divmod iter next Exception ValueError TypeError KeyError IndexError LookupError "
    "ZeroDivisionError ArithmeticError OverflowError RuntimeError NotImplementedError AttributeError StopIteration "
    "NotImplemented property staticmethod classmethod super bytes".split()
)
METHODS = set(
    "append clear copy count endswith extend find get index insert isalnum isalpha isdigit islower isspace isupper "
    "items join keys ljust lower lstrip partition pop remove replace reverse rfind rjust rpartition rsplit rstrip "
    "setdefault split splitlines startswith strip update upper values zfill bit_length title capitalize swapcase "
    "casefold center expandtabs removeprefix removesuffix rindex isascii isdecimal isnumeric istitle isidentifier "
    "isprintable add discard sort".split()
)
WORDS = set(
    "type typing typing_extensions enum Enum IntEnum StrEnum Flag IntFlag Generic Protocol ABC ABCMeta namedtuple "
    "NamedTuple TypedDict TYPE_CHECKING abstractmethod".split()
)
NAMES = set(
    "register mro elements open input law version_info with_traceback add_note attrgetter breakpoint builtins compile "
    "copyright credits delattr dir eval exec exit gc getattr globals hasattr help id importlib license locals "
    "methodcaller os quit setattr type vars sys".split()
)
DUNDERS = set("__init__ __eq__ __repr__ __str__ __len__ __enter__ __exit__ __call__ __iter__".split())
STATEMENTS = (
    ast.FunctionDef, ast.ClassDef, ast.ImportFrom, ast.Assign, ast.AugAssign, ast.If, ast.While, ast.For, ast.Return,
    ast.Break, ast.Continue, ast.Pass, ast.Raise, ast.Assert, ast.Delete, ast.Nonlocal, ast.Try, ast.Expr,
)


def files():
    """Return the name, the text and the tree of each file of the package."""
    found = []
    for path in sorted(FOLDER.rglob("*.py")):
        text = path.read_text(encoding="utf-8")
        found.append((path.name, text, ast.parse(text)))
    return found


def bound_names(tree):
    """Return all names that a file gives to something."""
    names = []
    for node in ast.walk(tree):
        if isinstance(node, (ast.FunctionDef, ast.ClassDef)):
            names.append(node.name)
        elif isinstance(node, ast.arg):
            names.append(node.arg)
        elif isinstance(node, ast.Name) and isinstance(node.ctx, ast.Store):
            names.append(node.id)
        elif isinstance(node, ast.Attribute):
            names.append(node.attr)
    return names


class LanguageTest(unittest.TestCase):
    def test_files(self):
        for path in FOLDER.rglob("*"):
            if "__pycache__" not in path.parts:
                self.assertTrue(path.is_dir() or re.fullmatch("[a-z_0-9]+[.]py", path.name), path)
        self.assertIn("__init__.py", [name for name, text, tree in files()])

    def test_size_and_signs(self):
        for name, text, tree in files():
            lines = text.split("\n")
            self.assertLessEqual(len(lines), 399, name)
            for number, line in enumerate(lines, start=1):
                self.assertLessEqual(len(line), 120, (name, number))
                self.assertTrue(all(" " <= sign <= "~" for sign in line), (name, number))
            for node in ast.walk(tree):
                if isinstance(node, ast.FunctionDef):
                    self.assertLessEqual(node.end_lineno - node.lineno + 1, 40, (name, node.name))

    def test_words(self):
        for name, text, tree in files():
            self.assertEqual(WORDS & set(re.findall(r"\w+", text)), set(), name)
            self.assertIsNone(re.search("dataclass|overload|contextmanager", text), name)

    def test_module_level(self):
        for name, text, tree in files():
            bound = []
            for node in tree.body:
                if isinstance(node, ast.ImportFrom):
                    self.assertTrue(node.module.startswith("enoughpaid."), (name, node.lineno))
                    bound += [alias.asname or alias.name for alias in node.names]
                elif isinstance(node, ast.Assign):
                    self.assertEqual([type(target) for target in node.targets], [ast.Name], (name, node.lineno))
                    bound.append(node.targets[0].id)
                elif isinstance(node, (ast.FunctionDef, ast.ClassDef)):
                    bound.append(node.name)
                else:
                    self.assertIsInstance(getattr(node, "value", None), ast.Constant, (name, node.lineno))
            self.assertEqual(len(bound), len(set(bound)), name)

    def test_statements_and_operators(self):
        for name, text, tree in files():
            for node in ast.walk(tree):
                place = (name, getattr(node, "lineno", 0))
                if isinstance(node, ast.stmt):
                    self.assertIsInstance(node, STATEMENTS, place)
                # Since a class has `__eq__`, lists are passed where generator expressions would do.
                self.assertNotIsInstance(node, (ast.Div, ast.GeneratorExp, ast.Yield, ast.NamedExpr), place)
                if isinstance(node, ast.Constant):
                    self.assertIn(type(node.value), (int, str, bool, type(None)), place)
                    self.assertNotIn("%", str(node.value), place)
                if isinstance(node, ast.Compare) and isinstance(node.ops[0], (ast.Is, ast.IsNot)):
                    self.assertIsInstance(node.comparators[0], ast.Constant, place)

    def test_names(self):
        for name, text, tree in files():
            for bound in bound_names(tree):
                self.assertFalse(bound.startswith("_") and bound not in DUNDERS, (name, bound))
                self.assertNotIn(bound, NAMES, name)
            for node in ast.walk(tree):
                if isinstance(node, ast.Name) and node.id in dir(builtins):
                    self.assertIn(node.id, BUILTINS, (name, node.lineno))
                    self.assertIsInstance(node.ctx, ast.Load, (name, node.lineno))

    def test_lambdas(self):
        for name, text, tree in files():
            lines = []
            for node in ast.walk(tree):
                if isinstance(node, ast.Lambda):
                    self.assertEqual([node.args.defaults, node.args.vararg, node.args.kwarg], [[], None, None], name)
                    lines.append((node.lineno, [part.arg for part in node.args.args]))
            self.assertTrue(all(lines.count(line) == 1 for line in lines), name)

    def test_lists_are_sorted_as_new_ones(self):
        # Since a class has `__eq__`.
        for name, text, tree in files():
            for node in ast.walk(tree):
                self.assertNotEqual(getattr(node, "attr", None), "sort", name)

    def test_methods_and_attributes(self):
        defined, assigned = set(), set()
        for name, text, tree in files():
            for node in ast.walk(tree):
                if isinstance(node, ast.ClassDef):
                    defined |= {part.name for part in node.body if isinstance(part, ast.FunctionDef)}
                if isinstance(node, ast.Attribute) and isinstance(node.ctx, ast.Store):
                    assigned.add(node.attr)
        self.assertEqual(defined & assigned, set())
        for name, text, tree in files():
            for node in ast.walk(tree):
                if isinstance(node, ast.Attribute):
                    self.assertIn(node.attr, defined | assigned | METHODS, (name, node.lineno))

    def test_no_local_name_of_an_import_or_class(self):
        for name, text, tree in files():
            outer = {alias.name for node in tree.body if isinstance(node, ast.ImportFrom) for alias in node.names}
            outer |= {node.name for node in tree.body if isinstance(node, ast.ClassDef)}
            for node in tree.body:
                if isinstance(node, (ast.FunctionDef, ast.ClassDef)):
                    inner = [
                        getattr(part, "arg", getattr(part, "id", None)) for part in ast.walk(node)
                        if isinstance(part, ast.arg) or isinstance(getattr(part, "ctx", None), ast.Store)
                    ]
                    self.assertEqual(outer & set(inner), set(), (name, node.name))


if __name__ == "__main__":
    unittest.main()
