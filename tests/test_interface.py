import importlib
import inspect
import unittest

INTERFACE = {
    "codepick.machines": {"is_machine": ["thing"]},
    "codepick.trees": {
        "is_tree": ["arities", "thing"],
        "nodes": ["arities", "tree"],
        "height": ["arities", "tree"],
        "same": ["arities", "one", "other"],
        "spelled": ["arities", "tree"],
        "unspelled": ["arities", "operators"],
    },
    "codepick.prices": {"prices": ["machine", "tree"], "relative": ["row"]},
    "codepick.covers": {
        "first_cover": ["machine", "tree", "form=0"],
        "spectrum": ["machine", "tree", "form=0"],
        "is_cover": ["machine", "tree", "thing", "form=0"],
        "price_of": ["machine", "tree", "cover", "form=0"],
        "number_of": ["machine", "tree", "cover", "form=0"],
        "cover_at": ["machine", "tree", "number", "form=0"],
    },
    "codepick.chooser": {
        "step": ["machine", "operator", "arguments"],
        "states": ["machine"],
        "state_tree": ["machine", "state"],
    },
    "codepick.endless": {"finite": ["machine"], "shows_finite": ["machine", "thing"]},
    "codepick.alike": {
        "compared": ["one", "other"],
        "shows_compared": ["one", "other", "thing"],
        "gap": ["one", "other"],
        "shows_gap": ["one", "other", "thing"],
    },
    "codepick.needless": {
        "needless": ["machine"],
        "never_used": ["machine"],
        "together": ["machine", "numbers"],
        "needing": ["machine", "number"],
        "shows_needing": ["machine", "number", "thing"],
        "fewest": ["machine"],
    },
    "codepick.contexts": {
        "is_context": ["arities", "thing"],
        "put": ["arities", "context", "tree"],
        "goes": ["machine", "context", "state"],
    },
    "codepick.classes": {
        "classes": ["machine"],
        "parted": ["machine", "state", "other"],
        "shows_parted": ["machine", "state", "other", "thing"],
    },
    "codepick.turning": {
        "turns": ["machine", "tree", "number"],
        "given_up": ["machine", "tree", "number"],
        "uses": ["machine", "tree", "number", "price"],
    },
    "codepick.counting": {
        "by_state": ["machine", "nodes"],
        "total": ["machine", "nodes"],
        "extremes": ["machine", "nodes"],
    },
    "codepick.texts": {
        "machine_text": ["machine"],
        "tree_text": ["arities", "tree"],
        "read_machine": ["text"],
        "read_tree": ["arities", "text"],
    },
}

# For each class what its objects are made of, its methods with what they take, and its properties.
CLASSES = {
    "codepick.readers": {
        "Reader": (
            ["machine"],
            {
                "feed": ["operator"], "feed_all": ["*operators"], "undo": [], "trial": ["work"], "__getitem__": None,
                "__len__": [], "__eq__": None, "__repr__": [],
            },
            ["machine", "height", "prices", "state", "deeds"],
        ),
        "Keeping": (["machine"], {"code": []}, ["tree", "trees"]),
        "Counting": (["machine"], {}, ["fed"]),
        "KeepingCounting": (["machine"], {"code": []}, ["tree", "trees", "fed"]),
    },
    "codepick.sessions": {"Session": ([], {"say": ["line"]}, [])},
}


def arguments_of(function):
    """What a function, a method without its own object, or a class takes."""
    return [str(parameter) for parameter in inspect.signature(function).parameters.values()]


class Interface(unittest.TestCase):
    def test_names_and_arguments(self):
        for module, functions in INTERFACE.items():
            for name, arguments in functions.items():
                with self.subTest(f"{module}.{name}"):
                    function = getattr(importlib.import_module(module), name)
                    self.assertTrue(inspect.isfunction(function))
                    self.assertEqual(function.__module__, module)
                    self.assertEqual(arguments_of(function), arguments)
                    for parameter in inspect.signature(function).parameters.values():
                        self.assertIs(parameter.kind, inspect.Parameter.POSITIONAL_OR_KEYWORD)

    def test_classes(self):
        for module, classes in CLASSES.items():
            for name, (made_of, methods, properties) in classes.items():
                own = getattr(importlib.import_module(module), name)
                self.assertEqual((own.__module__, own.__name__), (module, name))
                self.assertEqual(arguments_of(own), made_of)
                for method, arguments in methods.items():
                    with self.subTest(f"{name}.{method}"):
                        self.assertTrue(inspect.isfunction(vars(own)[method]))
                        if arguments is not None:
                            self.assertEqual(arguments_of(vars(own)[method])[1:], arguments)
                for attribute in properties:
                    with self.subTest(f"{name}.{attribute}"):
                        self.assertIsInstance(vars(own)[attribute], property)

    def test_families(self):
        readers = importlib.import_module("codepick.readers")
        for one, other, expected in (
            (readers.Keeping, readers.Reader, True), (readers.Counting, readers.Reader, True),
            (readers.KeepingCounting, readers.Keeping, True), (readers.KeepingCounting, readers.Counting, True),
            (readers.Keeping, readers.Counting, False), (readers.Counting, readers.Keeping, False),
            (readers.Reader, readers.Keeping, False), (readers.Reader, readers.Counting, False),
        ):
            self.assertIs(issubclass(one, other), expected)


if __name__ == "__main__":
    unittest.main()
