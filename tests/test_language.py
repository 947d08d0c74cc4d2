"""Rules of the language that can be seen in the text of the package, file by file."""

import ast
import builtins
import os
import re
import unittest

import codepick

FOLDER = os.path.dirname(os.path.abspath(codepick.__file__))

BUILTINS = set(
    "len range enumerate zip min max sum abs sorted reversed int str bool bytes list tuple dict set frozenset isinstance"
    " ord chr repr any all divmod Exception ValueError TypeError KeyError IndexError LookupError ZeroDivisionError"
    " ArithmeticError OverflowError RuntimeError NotImplementedError AttributeError StopIteration NotImplemented iter"
    " next super".split()
)
BARRED_NAMES = set(
    "register mro elements open input law version_info with_traceback add_note attrgetter breakpoint builtins compile"
    " copyright credits delattr dir eval exec exit gc getattr globals hasattr help id importlib license locals"
    " methodcaller os quit setattr vars".split()
)
BARRED_WORDS = (
    "type|typing|typing_extensions|enum|Enum|IntEnum|StrEnum|Flag|IntFlag|Generic|Protocol|ABC|ABCMeta|namedtuple"
    "|NamedTuple|TypedDict|TYPE_CHECKING|abstractmethod"
)
STATEMENTS = (ast.ImportFrom, ast.FunctionDef, ast.ClassDef, ast.Assign)
# Those double-underscore methods that the package has.
DOUBLE = {"__init__", "__eq__", "__repr__", "__len__", "__getitem__", "__iter__"}
NOT_ATTRIBUTES = set(
    "items keys values pop update append clear extend insert remove reverse setdefault sort args encode decode hex"
    " fromhex format format_map mro".split()
)
BUILTIN_METHODS = {
    name for kind in (str, int, bytes, list, tuple, dict, set) for name in dir(kind) if not name.startswith("_")
}


def files():
    """The names, texts and trees of the package's files."""
    found = []
    for name in sorted(os.listdir(FOLDER)):
        if name != "__pycache__":
            with open(os.path.join(FOLDER, name), encoding="utf-8") as file:
                text = file.read()
            found.append((name, text, ast.parse(text)))
    return found


def defined(tree):
    """The names that a file itself defines at module level."""
    found = [node.name for node in tree.body if isinstance(node, (ast.FunctionDef, ast.ClassDef))]
    for node in tree.body:
        if isinstance(node, ast.Assign):
            found += [target.id for target in node.targets]
    return found


def imported(tree):
    """Pairs of a module and a name."""
    found = []
    for node in ast.walk(tree):
        if isinstance(node, ast.ImportFrom):
            found += [(node.module, alias.name) for alias in node.names]
    return found


def bound(tree):
    """All names that a file binds, the imported ones and those of attributes aside."""
    found = []
    for node in ast.walk(tree):
        if isinstance(node, (ast.FunctionDef, ast.ClassDef)):
            found.append(node.name)
        elif isinstance(node, ast.arg):
            found.append(node.arg)
        elif isinstance(node, ast.Name) and not isinstance(node.ctx, ast.Load):
            found.append(node.id)
    return found


def methods(tree):
    """The methods of a file's classes."""
    rows = [node.body for node in tree.body if isinstance(node, ast.ClassDef)]
    return [node for body in rows for node in body if isinstance(node, ast.FunctionDef)]


def assigned_attributes(tree):
    """The names of the attributes that a file assigns."""
    return {
        node.attr for node in ast.walk(tree) if isinstance(node, ast.Attribute) and isinstance(node.ctx, ast.Store)
    }


def class_values(tree):
    """The names that classes of a file assign in their bodies."""
    rows = [node for node in ast.walk(tree) if isinstance(node, ast.ClassDef)]
    return {target.id for row in rows for node in row.body if isinstance(node, ast.Assign) for target in node.targets}


def is_call(node, names):
    """Whether a node of the syntax is a call of one of these builtins."""
    return isinstance(node, ast.Call) and isinstance(node.func, ast.Name) and node.func.id in names


def is_star(node):
    """Whether a node of the syntax is a star, or a dict literal with a double one."""
    return isinstance(node, ast.Starred) or isinstance(node, ast.Dict) and None in node.keys


def stars_in_indexes(tree):
    """The lines of the stars that stand in the brackets of subscripts, however deep."""
    indexes = [node.slice for node in ast.walk(tree) if isinstance(node, ast.Subscript)]
    return sorted({node.lineno for index in indexes for node in ast.walk(index) if is_star(node)})


class Language(unittest.TestCase):
    def test_files(self):
        for name in os.listdir(FOLDER):
            if name != "__pycache__":
                self.assertRegex(name, r"\A([a-z][a-z0-9_]*|__init__|__main__)\.py\Z")

    def test_sizes(self):
        for name, text, tree in files():
            lines = text.split("\n")
            self.assertLessEqual(len(lines), 400, name)
            self.assertLessEqual(max(map(len, lines)), 120, name)
            for node in ast.walk(tree):
                if isinstance(node, ast.FunctionDef):
                    self.assertLessEqual(node.end_lineno - node.lineno + 1, 40, node.name)

    def test_characters(self):
        for name, text, tree in files():
            self.assertRegex(text, r"\A[ -~\n]*\Z", name)
            for node in ast.walk(tree):
                if isinstance(node, ast.Constant) and isinstance(node.value, str):
                    self.assertNotIn("%", node.value, name)
                self.assertNotIsInstance(getattr(node, "value", None), float, name)

    def test_words(self):
        for name, text, tree in files():
            self.assertIsNone(re.search(rf"\b({BARRED_WORDS})\b", text), name)
            self.assertIsNone(re.search("dataclass|overload|contextmanager", text), name)

    def test_imports(self):
        homes = {f"codepick.{name[:-3]}": defined(tree) for name, text, tree in files()}
        for name, text, tree in files():
            for module, what in imported(tree):
                self.assertIn(what, homes[module], name)

    def test_no_circle_of_imports(self):
        wanted = {f"codepick.{name[:-3]}": {module for module, what in imported(tree)} for name, text, tree in files()}
        while wanted:
            ready = [name for name in wanted if not wanted[name] & set(wanted)]
            self.assertTrue(ready, wanted)
            for name in ready:
                del wanted[name]

    def test_module_level(self):
        for name, text, tree in files():
            for at, node in enumerate(tree.body):
                docstring = at == 0 and isinstance(node, ast.Expr)
                self.assertTrue(docstring or isinstance(node, STATEMENTS), name)
            names = defined(tree) + [what for module, what in imported(tree)]
            self.assertEqual(len(names), len(set(names)), name)

    def test_statements(self):
        for name, text, tree in files():
            for node in ast.walk(tree):
                self.assertNotIsInstance(node, (ast.Import, ast.Global, ast.AsyncFunctionDef, ast.Div), name)

    def test_names(self):
        for name, text, tree in files():
            outer = {what for module, what in imported(tree)}
            outer |= {node.name for node in tree.body if isinstance(node, ast.ClassDef)}
            inner = [what for what in bound(tree) if what not in defined(tree)]
            for what in inner:
                self.assertNotIn(what, outer, name)
            for what in set(bound(tree)) - DOUBLE:
                self.assertFalse(what.startswith("_"), what)
                self.assertNotIn(what, BARRED_NAMES, name)
                self.assertFalse(hasattr(builtins, what), what)

    def test_builtins(self):
        for name, text, tree in files():
            decorators = [row for node in ast.walk(tree) for row in getattr(node, "decorator_list", [])]
            for decorator in decorators:
                self.assertEqual(ast.unparse(decorator), "property", name)
            for node in ast.walk(tree):
                if isinstance(node, ast.Name) and hasattr(builtins, node.id) and node not in decorators:
                    self.assertIn(node.id, BUILTINS, name)

    def test_double_underscore_methods_stand_in_classes(self):
        for name, text, tree in files():
            functions = [node for node in ast.walk(tree) if isinstance(node, ast.FunctionDef)]
            for node in functions:
                if node.name.startswith("_"):
                    self.assertIn(node, methods(tree), name)

    def test_methods_and_attributes(self):
        """No name is a method here and an attribute there, and what is read is assigned somewhere."""
        trees = [tree for name, text, tree in files()]
        own = {method.name for tree in trees for method in methods(tree)}
        stored = set().union(*[assigned_attributes(tree) for tree in trees])
        values = set().union(*[class_values(tree) for tree in trees])
        self.assertFalse(own & stored)
        self.assertFalse(values & (own | stored))
        self.assertFalse(stored & NOT_ATTRIBUTES)
        self.assertFalse((own | stored | values) & BUILTIN_METHODS)
        for tree in trees:
            for node in ast.walk(tree):
                if isinstance(node, ast.Attribute):
                    known = own | stored | values | BUILTIN_METHODS
                    self.assertTrue(node.attr in known or node.attr == "__init__", node.attr)

    def test_beside_operators(self):
        """A class has an operator and a length: lists are passed where generators could be, and nothing is sorted."""
        for name, text, tree in files():
            for node in ast.walk(tree):
                self.assertNotIsInstance(node, ast.GeneratorExp, name)
                if is_call(node, ("reversed",)):
                    self.assertTrue(is_call(node.args[0], ("list", "tuple", "sorted", "range")), name)
                if isinstance(node, ast.Attribute):
                    self.assertNotEqual(node.attr, "sort", name)

    def test_no_star_in_an_index(self):
        for name, text, tree in files():
            self.assertEqual(stars_in_indexes(tree), [], name)

    def test_stars_in_indexes_are_found(self):
        """Where there is none in the package, a search that finds nothing would not be noticed."""
        barred = (
            "k = d[(*a, b)]",
            "k = d[*a, b]",
            "d[(b, (*a,))] = k",
            "k = d[f([*a])]",
            "k = d[f(*a)]",
            "del d[(*a,)]",
            "d[0][(*a,)] += 1",
            "k = d[len({**a})]",
        )
        for row in barred:
            self.assertEqual(stars_in_indexes(ast.parse(f"k = 0\n{row}\n")), [2], row)
        for row in ("k = (*a[:b], d[k])", "k = [*d[b * 2]]", "k = {**d[b]}", "k = f(*a)", "b, *a = d[k ** 2]"):
            self.assertEqual(stars_in_indexes(ast.parse(row)), [], row)

    def test_is(self):
        for name, text, tree in files():
            for node in ast.walk(tree):
                if isinstance(node, ast.Compare) and isinstance(node.ops[0], (ast.Is, ast.IsNot)):
                    self.assertIsInstance(node.comparators[0], ast.Constant, name)
                    self.assertIn(node.comparators[0].value, (None, True, False), name)

    def test_caught_errors_are_own_ones(self):
        own = [what for name, text, tree in files() if name == "errors.py" for what in defined(tree)]
        for name, text, tree in files():
            for node in ast.walk(tree):
                if isinstance(node, ast.ExceptHandler):
                    self.assertIn(node.type.id, own, name)


if __name__ == "__main__":
    unittest.main()
