import importlib
import inspect
import unittest

INTERFACE = {
    "codepick.machines": {"is_machine": ["thing"]},
    "codepick.trees": {
        "is_tree": ["arities", "thing"],
        "nodes": ["arities", "tree"],
        "height": ["arities", "tree"],
        "same": ["arities", "one", "other"],
        "spelled": ["arities", "tree"],
        "unspelled": ["arities", "operators"],
    },
    "codepick.prices": {"prices": ["machine", "tree"], "relative": ["row"]},
    "codepick.covers": {
        "first_cover": ["machine", "tree", "form=0"],
        "spectrum": ["machine", "tree", "form=0"],
        "is_cover": ["machine", "tree", "thing", "form=0"],
        "price_of": ["machine", "tree", "cover", "form=0"],
        "number_of": ["machine", "tree", "cover", "form=0"],
        "cover_at": ["machine", "tree", "number", "form=0"],
    },
    "codepick.chooser": {
        "step": ["machine", "operator", "arguments"],
        "states": ["machine"],
        "state_tree": ["machine", "state"],
    },
    "codepick.endless": {"finite": ["machine"], "shows_finite": ["machine", "thing"]},
    "codepick.alike": {
        "compared": ["one", "other"],
        "shows_compared": ["one", "other", "thing"],
        "gap": ["one", "other"],
        "shows_gap": ["one", "other", "thing"],
    },
}


class Interface(unittest.TestCase):
    def test_names_and_arguments(self):
        for module, functions in INTERFACE.items():
            for name, arguments in functions.items():
                with self.subTest(f"{module}.{name}"):
                    function = getattr(importlib.import_module(module), name)
                    self.assertTrue(inspect.isfunction(function))
                    self.assertEqual(function.__module__, module)
                    parameters = inspect.signature(function).parameters.values()
                    self.assertEqual([str(parameter) for parameter in parameters], arguments)
                    for parameter in parameters:
                        self.assertIs(parameter.kind, inspect.Parameter.POSITIONAL_OR_KEYWORD)


if __name__ == "__main__":
    unittest.main()
