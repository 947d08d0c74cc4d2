import unittest

from codepick import errors
from codepick.errors import PickError, TooMany

NAMES = (
    "NoMachine", "NoArities", "NoTree", "Unspelled", "NoOperator", "NoPrices", "NoStates", "NoForm", "NoCover",
    "NoNumber", "NoNumbers", "NoPrice", "ManyForms", "Endless", "OtherArities", "NoContext", "NoNodes",
    "NoArguments", "NothingRead", "NothingDone", "NoPlace", "NoText", "BadLine",
)


class Errors(unittest.TestCase):
    def test_pick_error_is_derived_from_value_error(self):
        self.assertEqual(PickError.__bases__, (ValueError,))
        self.assertEqual(PickError.__module__, "codepick.errors")

    def test_every_error_is_derived_directly(self):
        for name in NAMES + ("TooMany",):
            with self.subTest(name):
                error = getattr(errors, name)
                self.assertEqual(error.__name__, name)
                self.assertEqual(error.__bases__, (PickError,))
                self.assertEqual(error.__module__, "codepick.errors")

    def test_no_error_is_another_one(self):
        self.assertEqual(len({getattr(errors, name) for name in NAMES + ("TooMany",)}), 24)

    def test_made_with_a_message_or_none(self):
        for name in NAMES + ("PickError",):
            with self.subTest(name):
                error = getattr(errors, name)
                self.assertEqual(str(error("a message")), "a message")
                self.assertIsInstance(error(), error)
                with self.assertRaises(ValueError):
                    raise error("a message")

    def test_fields_of_too_many(self):
        for error in (TooMany(201, 200), TooMany(amount=201, limit=200), TooMany(201, limit=200)):
            self.assertEqual((error.amount, error.limit), (201, 200))
            self.assertIsInstance(str(error), str)
            with self.assertRaises(TooMany):
                raise error
        turned = TooMany(limit=40, amount=41)
        self.assertEqual((turned.amount, turned.limit), (41, 40))

    def test_too_many_needs_both_fields(self):
        with self.assertRaises(TypeError):
            TooMany()
        with self.assertRaises(TypeError):
            TooMany(1)


if __name__ == "__main__":
    unittest.main()
