import importlib
import inspect
import unittest

INTERFACE = {
    "codepick.machines": {"is_machine": ["thing"]},
    "codepick.trees": {
        "is_tree": ["arities", "thing"],
        "nodes": ["arities", "tree"],
        "height": ["arities", "tree"],
        "same": ["arities", "one", "other"],
        "spelled": ["arities", "tree"],
        "unspelled": ["arities", "operators"],
    },
    "codepick.prices": {"prices": ["machine", "tree"], "relative": ["row"]},
}


class Interface(unittest.TestCase):
    def test_names_and_arguments(self):
        for module, functions in INTERFACE.items():
            for name, arguments in functions.items():
                with self.subTest(f"{module}.{name}"):
                    function = getattr(importlib.import_module(module), name)
                    self.assertTrue(inspect.isfunction(function))
                    self.assertEqual(function.__module__, module)
                    parameters = inspect.signature(function).parameters.values()
                    self.assertEqual([parameter.name for parameter in parameters], arguments)
                    for parameter in parameters:
                        self.assertIs(parameter.kind, inspect.Parameter.POSITIONAL_OR_KEYWORD)
                        self.assertIs(parameter.default, inspect.Parameter.empty)


if __name__ == "__main__":
    unittest.main()
