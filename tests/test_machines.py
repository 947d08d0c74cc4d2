import unittest

from codepick.errors import NoTree
from codepick.machines import is_machine
from samples import NEAR, SMALL, WIDE, asked_twice, chance, deep, replaced, some_machine, spoiled, wrong_values

LEAF = (0, 0, (), 1)


def with_instructions(*instructions):
    return (0, 1, 2), 2, instructions, ()


def with_conversions(*conversions):
    return (0,), 3, (LEAF,), conversions


class Machines(unittest.TestCase):
    def right(self, thing):
        self.assertIs(asked_twice(self, is_machine, thing), True)

    def wrong(self, thing):
        self.assertIs(asked_twice(self, is_machine, thing), False)

    def test_ordinary_machines(self):
        for machine in (NEAR, SMALL, WIDE):
            self.right(machine)
        for seed in range(200):
            self.right(some_machine(chance(seed)))

    def test_by_name(self):
        self.assertIs(is_machine(thing=NEAR), True)
        self.assertIs(is_machine(thing=None), False)

    def test_any_value(self):
        for thing in wrong_values() + [None, 0, 1, (), (0,), (1,), (None,), (NEAR,), list(NEAR), deep(tuple, 200)]:
            self.wrong(thing)

    def test_something_wrong_at_each_place(self):
        for machine in (NEAR, SMALL, WIDE):
            for thing in spoiled(machine):
                self.wrong(thing)

    def test_none_at_each_place(self):
        for place in ((0,), (1,), (2,), (3,), (0, 0), (2, 0), (2, 1, 0), (2, 1, 1), (2, 1, 2), (2, 1, 2, 0), (2, 1, 3),
                      (3, 0), (3, 0, 0), (3, 0, 1), (3, 0, 2)):
            self.wrong(replaced(WIDE, place, None))

    def test_objects_of_the_package(self):
        self.wrong(NoTree())
        self.wrong(replaced(NEAR, (2, 0, 3), NoTree()))

    def test_four_parts(self):
        self.wrong(NEAR[:3])
        self.wrong(NEAR + ((),))
        self.wrong(())

    def test_one_to_six_operators(self):
        self.right(((0,), 1, (), ()))
        self.right(((2,), 1, (), ()))
        self.right(((0, 1, 2, 0, 1, 2), 1, (), ()))
        self.wrong(((), 1, (), ()))
        self.wrong(((0, 1, 2, 0, 1, 2, 0), 1, (), ()))

    def test_arities(self):
        for arity in (0, 1, 2):
            self.right(((arity,), 1, (), ()))
        for arity in (-1, 3, True, False, None, "1", (1,), [1], 10**19):
            self.wrong(((arity,), 1, (), ()))
            self.wrong(((0, arity), 1, (), ()))
        self.wrong(([0], 1, (), ()))

    def test_one_to_four_forms(self):
        for forms in (1, 2, 3, 4):
            self.right(((0,), forms, ((forms - 1, 0, (), 0),), ()))
            self.wrong(((0,), forms, ((forms, 0, (), 0),), ()))
        for forms in (0, -1, 5, True, None, "2", (2,), 10**19):
            self.wrong(((0,), forms, (), ()))

    def test_prices_of_instructions(self):
        for price in (0, 1, 19, 20):
            self.right(with_instructions((0, 0, (), price)))
        for price in (-1, 21, 10**19, True, False, None, "1", (1,)):
            self.wrong(with_instructions((0, 0, (), price)))
            self.wrong(with_instructions(LEAF, (0, 0, (), price)))

    def test_forms_and_operators_of_instructions(self):
        self.right(with_instructions((1, 2, (1, 0), 0), (0, 1, (1,), 0)))
        for form in (-1, 2, True, False, None):
            self.wrong(with_instructions((form, 0, (), 0)))
            self.wrong(with_instructions((0, 1, (form,), 0)))
            self.wrong(with_instructions((0, 2, (0, form), 0)))
            self.wrong(with_instructions((0, 2, (form, 0), 0)))
        for operator in (-1, 3, True, False, None, -3):
            for arguments in ((), (0,), (0, 0)):
                self.wrong(with_instructions((0, operator, arguments, 0)))

    def test_arguments_of_instructions(self):
        for operator in (0, 1, 2):
            for many in (0, 1, 2, 3):
                thing = with_instructions((0, operator, (1,) * many, 0))
                self.assertIs(is_machine(thing), many == operator)
        self.wrong(with_instructions((0, 0, [], 0)))
        self.wrong(with_instructions((0, 0, None, 0)))
        self.wrong(with_instructions((0, 1, [0], 0)))
        self.wrong(with_instructions((0, 1, 0, 0)))

    def test_parts_of_instructions(self):
        for thing in ((), (0, 0, ()), (0, 0, (), 1, 0), [0, 0, (), 1], None, 0, "0000"):
            self.wrong(with_instructions(thing))
            self.wrong(with_instructions(LEAF, thing))

    def test_24_and_25_instructions(self):
        self.right(with_instructions())
        self.right(with_instructions(*[LEAF] * 24))
        self.wrong(with_instructions(*[LEAF] * 25))
        self.wrong(replaced(NEAR, (2,), list(NEAR[2])))

    def test_equal_ones_may_stand_there_several_times(self):
        self.right(with_instructions(LEAF, LEAF, LEAF))
        self.right(with_conversions((0, 1, 2), (0, 1, 2)))

    def test_12_and_13_conversions(self):
        self.right(with_conversions())
        self.right(with_conversions(*[(0, 1, 3)] * 12))
        self.wrong(with_conversions(*[(0, 1, 3)] * 13))
        self.wrong(((0,), 2, (), [(0, 1, 3)]))

    def test_forms_of_conversions(self):
        for start in range(-1, 4):
            for end in range(-1, 4):
                right = 0 <= start < 3 and 0 <= end < 3 and start != end
                self.assertIs(is_machine(with_conversions((start, end, 1))), right)
                self.assertIs(is_machine(with_conversions((0, 1, 1), (start, end, 1))), right)
        for form in (True, False, None, "0"):
            self.wrong(with_conversions((form, 2, 1)))
            self.wrong(with_conversions((2, form, 1)))

    def test_prices_of_conversions(self):
        for price in (0, 1, 19, 20):
            self.right(with_conversions((0, 1, price)))
        for price in (-1, 21, 10**19, True, False, None, "1", (1,)):
            self.wrong(with_conversions((0, 1, price)))

    def test_parts_of_conversions(self):
        for thing in ((), (0, 1), (0, 1, 1, 1), [0, 1, 1], None, 0, "011"):
            self.wrong(with_conversions(thing))
            self.wrong(with_conversions((0, 1, 1), thing))

    def test_no_conversions_with_one_form(self):
        self.wrong(((0,), 1, (), ((0, 0, 1),)))
        self.wrong(((0,), 1, (), ((0, 1, 1),)))


if __name__ == "__main__":
    unittest.main()
