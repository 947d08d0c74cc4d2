"""Rules of the language that can be seen in the text of the package, file by file."""

import ast
import builtins
import os
import re
import unittest

import codepick

FOLDER = os.path.dirname(os.path.abspath(codepick.__file__))

BUILTINS = set(
    "len range enumerate zip min max sum abs sorted reversed int str bool bytes list tuple dict set frozenset isinstance"
    " ord chr repr any all divmod Exception ValueError TypeError KeyError IndexError LookupError ZeroDivisionError"
    " ArithmeticError OverflowError RuntimeError NotImplementedError AttributeError StopIteration NotImplemented iter"
    " next".split()
)
BARRED_NAMES = set(
    "register mro elements open input law version_info with_traceback add_note attrgetter breakpoint builtins compile"
    " copyright credits delattr dir eval exec exit gc getattr globals hasattr help id importlib license locals"
    " methodcaller os quit setattr vars".split()
)
BARRED_WORDS = (
    "type|typing|typing_extensions|enum|Enum|IntEnum|StrEnum|Flag|IntFlag|Generic|Protocol|ABC|ABCMeta|namedtuple"
    "|NamedTuple|TypedDict|TYPE_CHECKING|abstractmethod"
)
STATEMENTS = (ast.ImportFrom, ast.FunctionDef, ast.ClassDef, ast.Assign)


def files():
    """The names, texts and trees of the package's files."""
    found = []
    for name in sorted(os.listdir(FOLDER)):
        if name != "__pycache__":
            with open(os.path.join(FOLDER, name), encoding="utf-8") as file:
                text = file.read()
            found.append((name, text, ast.parse(text)))
    return found


def defined(tree):
    """The names that a file itself defines at module level."""
    found = [node.name for node in tree.body if isinstance(node, (ast.FunctionDef, ast.ClassDef))]
    for node in tree.body:
        if isinstance(node, ast.Assign):
            found += [target.id for target in node.targets]
    return found


def imported(tree):
    """Pairs of a module and a name."""
    found = []
    for node in ast.walk(tree):
        if isinstance(node, ast.ImportFrom):
            found += [(node.module, alias.name) for alias in node.names]
    return found


def bound(tree):
    """All names that a file binds, the imported ones and those of attributes aside."""
    found = []
    for node in ast.walk(tree):
        if isinstance(node, (ast.FunctionDef, ast.ClassDef)):
            found.append(node.name)
        elif isinstance(node, ast.arg):
            found.append(node.arg)
        elif isinstance(node, ast.Name) and not isinstance(node.ctx, ast.Load):
            found.append(node.id)
    return found


class Language(unittest.TestCase):
    def test_files(self):
        for name in os.listdir(FOLDER):
            if name != "__pycache__":
                self.assertRegex(name, r"\A([a-z][a-z0-9_]*|__init__|__main__)\.py\Z")

    def test_sizes(self):
        for name, text, tree in files():
            lines = text.split("\n")
            self.assertLessEqual(len(lines), 400, name)
            self.assertLessEqual(max(map(len, lines)), 120, name)
            for node in ast.walk(tree):
                if isinstance(node, ast.FunctionDef):
                    self.assertLessEqual(node.end_lineno - node.lineno + 1, 40, node.name)

    def test_characters(self):
        for name, text, tree in files():
            self.assertRegex(text, r"\A[ -~\n]*\Z", name)
            for node in ast.walk(tree):
                if isinstance(node, ast.Constant) and isinstance(node.value, str):
                    self.assertNotIn("%", node.value, name)
                self.assertNotIsInstance(getattr(node, "value", None), float, name)

    def test_words(self):
        for name, text, tree in files():
            self.assertIsNone(re.search(rf"\b({BARRED_WORDS})\b", text), name)
            self.assertIsNone(re.search("dataclass|overload|contextmanager", text), name)

    def test_imports(self):
        homes = {f"codepick.{name[:-3]}": defined(tree) for name, text, tree in files()}
        for name, text, tree in files():
            for module, what in imported(tree):
                self.assertIn(what, homes[module], name)

    def test_no_circle_of_imports(self):
        wanted = {f"codepick.{name[:-3]}": {module for module, what in imported(tree)} for name, text, tree in files()}
        while wanted:
            ready = [name for name in wanted if not wanted[name] & set(wanted)]
            self.assertTrue(ready, wanted)
            for name in ready:
                del wanted[name]

    def test_module_level(self):
        for name, text, tree in files():
            for at, node in enumerate(tree.body):
                docstring = at == 0 and isinstance(node, ast.Expr)
                self.assertTrue(docstring or isinstance(node, STATEMENTS), name)
            names = defined(tree) + [what for module, what in imported(tree)]
            self.assertEqual(len(names), len(set(names)), name)

    def test_statements(self):
        for name, text, tree in files():
            for node in ast.walk(tree):
                self.assertNotIsInstance(node, (ast.Import, ast.Global, ast.AsyncFunctionDef, ast.Div), name)

    def test_names(self):
        for name, text, tree in files():
            outer = {what for module, what in imported(tree)}
            outer |= {node.name for node in tree.body if isinstance(node, ast.ClassDef)}
            inner = [what for what in bound(tree) if what not in defined(tree)]
            for what in inner:
                self.assertNotIn(what, outer, name)
            for what in set(bound(tree)) - {"__init__"}:
                self.assertFalse(what.startswith("_"), what)
                self.assertNotIn(what, BARRED_NAMES, name)
                self.assertFalse(hasattr(builtins, what), what)

    def test_builtins(self):
        for name, text, tree in files():
            for node in ast.walk(tree):
                if isinstance(node, ast.Name) and hasattr(builtins, node.id):
                    self.assertIn(node.id, BUILTINS, name)


if __name__ == "__main__":
    unittest.main()
