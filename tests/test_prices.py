import itertools
import unittest

from codepick.errors import NoMachine, NoPrices, NoTree
from codepick.prices import prices, relative
from codepick.trees import unspelled
from samples import (NEAR, NEAR_TREE, SMALL, WIDE, asked_twice, chain, chance, doubled, some_machine, some_tree,
                     spoiled, unshared, wrong_values)

LEAF = ((0,),)


def ways(machine, start, end):
    """The prices of all ways, found by trying every order of conversions, without looking at the program."""
    found = []
    for many in range(machine[1]):
        for row in itertools.permutations(machine[3], many):
            visited = [start] + [step[1] for step in row]
            linked = all(step[0] == here for step, here in zip(row, visited))
            if linked and visited[-1] == end and len(set(visited)) == len(visited):
                found.append(sum(step[2] for step in row))
    return found


class Covers:
    """The prices of all covers of parts in forms, written out one by one."""

    def __init__(self, machine):
        self.machine = machine
        self.ways = {}
        for start in range(machine[1]):
            for end in range(machine[1]):
                self.ways[start, end] = ways(machine, start, end)
        self.known = {}

    def all_prices(self, nested, form):
        if (nested, form) not in self.known:
            found = set()
            for made, operator, arguments, price in self.machine[2]:
                if operator == nested[0]:
                    parts = [self.all_prices(part, wanted) for part, wanted in zip(nested[1:], arguments)]
                    for chosen in itertools.product([price], self.ways[made, form], *parts):
                        found.add(sum(chosen))
            self.known[nested, form] = found
        return self.known[nested, form]

    def row(self, nested):
        return tuple([min(self.all_prices(nested, form), default=None) for form in range(self.machine[1])])


class Prices(unittest.TestCase):
    def test_short_session(self):
        self.assertEqual(asked_twice(self, prices, NEAR, NEAR_TREE), (1, 2))

    def test_parts_of_the_short_session(self):
        self.assertEqual(prices(NEAR, LEAF), (1, 0))
        self.assertEqual(prices(NEAR, NEAR_TREE[:2]), (0, 3))
        self.assertEqual(prices(NEAR, ((0,), (1, 0, 0), (1, 1, 1))), (0, 1))

    def test_by_name(self):
        self.assertEqual(prices(machine=NEAR, tree=NEAR_TREE), (1, 2))
        self.assertEqual(prices(tree=NEAR_TREE, machine=NEAR), (1, 2))

    def test_kinds_of_the_answer(self):
        row = prices(NEAR, NEAR_TREE)
        self.assertIs(type(row), tuple)
        self.assertEqual([type(price) for price in row], [int, int])

    def test_the_smallest_machine(self):
        self.assertEqual(prices(SMALL, LEAF), (0,))
        self.assertEqual(prices(((0,), 1, (), ()), LEAF), (None,))
        self.assertEqual(prices(((0,), 4, (), ()), LEAF), (None,) * 4)

    def test_four_forms(self):
        self.assertEqual(prices(WIDE, LEAF), (20, None, 40, 40))
        self.assertEqual(prices(WIDE, ((0,), (1, 0))), (None, None, 40, 40))
        self.assertEqual(prices(WIDE, ((0,), (1, 0), (5, 1, 0))), (72, 67, 92, 92))

    def test_the_cheapest_of_several_instructions(self):
        machine = ((0,), 1, ((0, 0, (), 5), (0, 0, (), 3), (0, 0, (), 4)), ())
        self.assertEqual(prices(machine, LEAF), (3,))

    def test_prices_0_and_20(self):
        machine = ((0, 1), 2, ((0, 0, (), 0), (0, 1, (1,), 20)), ((0, 1, 20), (1, 0, 0)))
        self.assertEqual(prices(machine, LEAF), (0, 20))
        self.assertEqual(prices(machine, chain(1, 2)), (40, 60))

    def test_equal_instructions_and_conversions(self):
        machine = ((0,), 2, ((0, 0, (), 4),) * 24, ((0, 1, 3),) * 12)
        self.assertEqual(prices(machine, LEAF), (4, 7))

    def test_ways_of_several_conversions(self):
        machine = ((0,), 4, ((3, 0, (), 1),), ((1, 0, 2), (2, 1, 3), (3, 2, 4), (3, 0, 20), (0, 3, 0)))
        self.assertEqual(prices(machine, LEAF), (10, 8, 5, 1))
        direct = machine[:3] + (machine[3] + ((3, 0, 8),),)
        self.assertEqual(prices(direct, LEAF), (9, 8, 5, 1))

    def test_ways_in_every_order_of_conversions(self):
        steps = ((1, 0, 2), (2, 1, 3), (3, 2, 4))
        for row in itertools.permutations(steps):
            self.assertEqual(prices(((0,), 4, ((3, 0, (), 1),), row), LEAF), (10, 8, 5, 1))
        for names in itertools.permutations(range(4)):
            row = tuple([(names[start], names[end], price) for start, end, price in steps])
            machine = ((0,), 4, ((names[3], 0, (), 1),), row)
            expected = {names[0]: 10, names[1]: 8, names[2]: 5, names[3]: 1}
            self.assertEqual(prices(machine, LEAF), tuple([expected[form] for form in range(4)]))

    def test_a_conversion_leads_one_way_only(self):
        machine = ((0,), 2, ((0, 0, (), 1),), ((1, 0, 2),))
        self.assertEqual(prices(machine, LEAF), (1, None))

    def test_the_dearer_form_may_be_the_better_start(self):
        machine = ((0, 1), 2, ((0, 0, (), 1), (1, 0, (), 2), (0, 1, (0,), 9), (0, 1, (1,), 3)), ())
        self.assertEqual(prices(machine, chain(1, 2)), (5, None))

    def test_arguments_are_told_apart(self):
        machine = ((0, 0, 2), 2, ((0, 0, (), 1), (1, 1, (), 5), (0, 2, (0, 1), 0)), ())
        self.assertEqual(prices(machine, ((0,), (1,), (2, 0, 1))), (6, None))
        self.assertEqual(prices(machine, ((0,), (1,), (2, 1, 0))), (None, None))

    def test_forms_without_a_price(self):
        machine = ((0, 1, 2), 3, ((1, 0, (), 2), (2, 1, (0,), 0), (2, 1, (1,), 4), (0, 2, (1, 2), 1)), ())
        self.assertEqual(prices(machine, LEAF), (None, 2, None))
        self.assertEqual(prices(machine, ((0,), (1, 0))), (None, None, 6))
        self.assertEqual(prices(machine, ((0,), (1, 0), (1, 1))), (None, None, None))
        self.assertEqual(prices(machine, ((0,), (1, 0), (2, 0, 1))), (9, None, None))
        self.assertEqual(prices(machine, ((0,), (1, 0), (2, 1, 0))), (None, None, None))

    def test_an_operator_without_instructions(self):
        machine = ((0, 1), 2, ((0, 0, (), 2),), ((0, 1, 1),))
        self.assertEqual(prices(machine, LEAF), (2, 3))
        self.assertEqual(prices(machine, chain(1, 2)), (None, None))

    def test_shared_nodes_count_as_often_as_they_stand_there(self):
        machine = ((0, 2), 1, ((0, 0, (), 3), (0, 1, (0, 0), 1)), ())
        self.assertEqual(prices(machine, ((0,), (1, 0, 0))), (7,))
        self.assertEqual(prices(machine, ((0,), (1, 0, 0), (1, 1, 1))), (15,))

    def test_unneeded_nodes(self):
        machine = ((0, 1), 1, ((0, 0, (), 3),), ())
        self.assertEqual(prices(machine, ((0,), (1, 0), (0,))), (3,))
        self.assertEqual(prices(NEAR, doubled(1, 99) + ((0,),)), (1, 0))

    def test_100_written_nodes(self):
        machine = ((0, 1), 1, ((0, 0, (), 3), (0, 1, (0,), 2)), ())
        self.assertEqual(prices(machine, chain(1, 100)), (3 + 2 * 99,))

    def test_a_tree_far_too_great(self):
        machine = ((0, 2), 2, ((0, 0, (), 20), (0, 1, (0, 1), 13)), ((0, 1, 7),))
        leaves = 2**99
        price = 20 * leaves + (leaves - 1) * (13 + 7)
        self.assertEqual(asked_twice(self, prices, machine, doubled(1, 100)), (price, price + 7))
        one, other = prices(NEAR, doubled(1, 100))
        self.assertEqual((one, other), (0, 1))

    def test_trees_beyond_100_written_nodes(self):
        machine = ((0, 1), 1, ((0, 0, (), 3), (0, 1, (0,), 2)), ())
        self.assertEqual(prices(machine, chain(1, 101)), (203,))
        self.assertEqual(prices(machine, unspelled((0, 1), (1,) * 199 + (0,))), (3 + 2 * 199,))
        self.assertEqual(prices(machine, chain(1, 2000)), (3 + 2 * 1999,))

    def test_against_all_covers(self):
        with_price = without_price = 0
        for seed in range(400):
            machine = some_machine(chance(seed))
            covers = Covers(machine)
            for number in range(4):
                tree = some_tree(chance(1000 * seed + number), machine[0], 5)
                expected = covers.row(unshared(tree))
                self.assertEqual(asked_twice(self, prices, machine, tree), expected)
                with_price += expected[0] is not None
                without_price += expected[0] is None
        self.assertGreater(with_price, 200)
        self.assertGreater(without_price, 200)

    def test_no_machine(self):
        for machine in wrong_values() + spoiled(NEAR) + [None, 0, (), NEAR[:3]]:
            self.assertRaises(NoMachine, prices, machine, NEAR_TREE)

    def test_limits_of_machines(self):
        self.assertEqual(prices(((0,), 1, ((0, 0, (), 1),) * 24, ()), LEAF), (1,))
        self.assertRaises(NoMachine, prices, ((0,), 1, ((0, 0, (), 1),) * 25, ()), LEAF)
        self.assertEqual(prices(((0,), 2, (), ((0, 1, 1),) * 12), LEAF), (None, None))
        self.assertRaises(NoMachine, prices, ((0,), 2, (), ((0, 1, 1),) * 13), LEAF)
        self.assertRaises(NoMachine, prices, ((0,), 1, ((0, 0, (), 21),), ()), LEAF)
        self.assertRaises(NoMachine, prices, ((0,), 5, (), ()), LEAF)
        self.assertRaises(NoMachine, prices, ((0,) * 7, 1, (), ()), LEAF)

    def test_no_tree(self):
        for tree in wrong_values() + spoiled(NEAR_TREE) + [None, 0, (), ((2,),), ((0,), (1, 0)), ((0,), (1, 1, 0))]:
            self.assertRaises(NoTree, prices, NEAR, tree)

    def test_a_tree_for_other_arities(self):
        self.assertRaises(NoTree, prices, SMALL, NEAR_TREE)
        self.assertRaises(NoTree, prices, ((0, 1), 1, (), ()), NEAR_TREE)
        self.assertRaises(NoTree, prices, ((2, 0), 1, (), ()), NEAR_TREE)

    def test_no_machine_comes_first(self):
        for machine in (None, [], list(NEAR), NEAR[:3], ((0,) * 7, 1, (), ()), ((3,), 1, (), ())):
            for tree in (None, (), ((9,),), [(0,)], NEAR_TREE):
                self.assertRaises(NoMachine, prices, machine, tree)


class Relative(unittest.TestCase):
    def test_ordinary_rows(self):
        for row, answer in (
            ((1, 2), ((0, 1), 1)),
            ((0, 0), ((0, 0), 0)),
            ((7, 3, 5), ((4, 0, 2), 3)),
            ((3, 5, 3, 9), ((0, 2, 0, 6), 3)),
            ((None, 4), ((None, 0), 4)),
            ((6, None, 4, None), ((2, None, 0, None), 4)),
            ((0, None), ((0, None), 0)),
        ):
            self.assertEqual(repr(asked_twice(self, relative, row)), repr(answer))

    def test_one_price(self):
        self.assertEqual(relative((0,)), ((0,), 0))
        self.assertEqual(relative((5,)), ((0,), 5))
        self.assertEqual(relative((None,)), ((None,), None))

    def test_no_price(self):
        for many in (1, 2, 3, 4):
            self.assertEqual(asked_twice(self, relative, (None,) * many), ((None,) * many, None))

    def test_none_to_five_prices(self):
        self.assertRaises(NoPrices, relative, ())
        self.assertEqual(relative((1, 1, 1, 1)), ((0, 0, 0, 0), 1))
        self.assertRaises(NoPrices, relative, (1, 1, 1, 1, 1))
        self.assertRaises(NoPrices, relative, (None,) * 5)
        self.assertRaises(NoPrices, relative, (1,) * 4000)

    def test_many_digits(self):
        great = 10**20 - 1
        self.assertEqual(relative((great, 1)), ((great - 1, 0), 1))
        self.assertEqual(relative((10**40 + 3, None, 10**40)), ((3, None, 0), 10**40))

    def test_rows_that_prices_returns(self):
        self.assertEqual(relative(prices(NEAR, NEAR_TREE)), ((0, 1), 1))
        machine = ((0, 2), 2, ((0, 0, (), 20), (0, 1, (0, 1), 13)), ((0, 1, 7),))
        row = prices(machine, doubled(1, 100))
        self.assertEqual(relative(row), ((0, 7), row[0]))

    def test_no_prices(self):
        for row in wrong_values() + [
            None, 0, 1, [1, 2], [None], {0: 1}, "12", (-1,), (1, -1), (-1, None), (True,), (1, True), (False, 0),
            (None, False), (1, "2"), (1, (2,)), (1, [2]), ((1, 2),), (1, {}), (1, NoPrices()), NoPrices(), NEAR,
        ]:
            self.assertRaises(NoPrices, relative, row)
        for row in spoiled((1, 0, 5)):
            # A price with very many digits is a price.
            if not isinstance(row, tuple) or 10**20 - 1 not in row:
                self.assertRaises(NoPrices, relative, row)

    def test_by_name(self):
        self.assertEqual(relative(row=(1, 2)), ((0, 1), 1))


if __name__ == "__main__":
    unittest.main()
