import itertools
import unittest

from codepick.chooser import states
from codepick.counting import by_state, extremes, total
from codepick.errors import Endless, NoMachine, NoNodes, TooMany
from brute import Rows, all_trees, rows_by_size, state_of
from samples import (NEAR, SMALL, WIDE, asked_twice, chance, counters, is_small, machine_for, some_machine, spoiled,
                     wrong_values)

GROWING = counters((None,), (1, (1,)))
CROWD = counters((None, None), (1, 2))


def small_machines(amount):
    found = [NEAR, SMALL]
    for seed in range(amount):
        dice = chance(seed)
        arities = ((0, 1), (0, 0, 2), (0, 1, 2), (0, 2), (0, 0, 1, 1, 2))[seed % 5]
        machine = machine_for(dice, arities, 1 + seed // 5 % 4, dice.randint(2, 10), dice.randint(0, 5), 5)
        if seed % 6 == 0:
            machine = some_machine(dice)
        if is_small(machine):
            found.append(machine)
    return found


def told_of(rows):
    """What the three functions tell of trees with these rows."""
    states_found = {}
    for row in rows:
        state = state_of(row)[0]
        states_found[state] = states_found.get(state, 0) + 1
    goals = [row[0] for row in rows if row[0] is not None]
    return states_found, (len(goals), sum(goals)), (min(goals), max(goals)) if goals else None


def counted_rows(machine, most):
    """For each number of nodes a dict from rows to how many trees have them."""
    rules = Rows(machine)
    by_size = [{}]
    for size in range(1, most + 1):
        found = {}
        for operator, arity in enumerate(machine[0]):
            for sizes in itertools.product(range(1, size), repeat=arity):
                if sum(sizes) == size - 1:
                    for parts in itertools.product(*[by_size[many].items() for many in sizes]):
                        row = rules.over(operator, [part for part, many in parts])
                        amount = 1
                        for part, many in parts:
                            amount *= many
                        found[row] = found.get(row, 0) + amount
        by_size.append(found)
    return by_size


def amounts_of_trees(arities, most):
    """How many trees with each number of nodes there are."""
    amounts = [0]
    for size in range(1, most + 1):
        pairs = sum([amounts[many] * amounts[size - 1 - many] for many in range(1, size - 1)])
        amounts.append(arities.count(0) * (size == 1) + arities.count(1) * amounts[size - 1] + arities.count(2) * pairs)
    return amounts


def calls(machine, nodes):
    return [lambda: by_state(machine, nodes), lambda: total(machine, nodes), lambda: extremes(machine, nodes)]


class Examples(unittest.TestCase):
    def test_near(self):
        for nodes, expected in (
            (1, ({(1, 0): 1}, (1, 1), (1, 1))),
            (2, ({}, (0, 0), None)),
            (3, ({(0, 3): 1}, (1, 0), (0, 0))),
            (5, ({(0, 1): 2}, (2, 2), (1, 1))),
            (20, ({}, (0, 0), None)),
        ):
            self.assertEqual(asked_twice(self, by_state, NEAR, nodes), expected[0])
            self.assertEqual(asked_twice(self, total, NEAR, nodes), expected[1])
            self.assertEqual(asked_twice(self, extremes, NEAR, nodes), expected[2])

    def test_one_form(self):
        """Leaves at 1 and at 4, and an operator at 2: as many trees as ways to put leaves."""
        machine = ((0, 0, 1), 1, ((0, 0, (), 1), (0, 1, (), 4), (0, 2, (0,), 2)), ())
        for nodes in range(1, 21):
            more = 2 * (nodes - 1)
            self.assertEqual(by_state(machine, nodes), {(0,): 2})
            self.assertEqual(total(machine, nodes), (2, 5 + 2 * more))
            self.assertEqual(extremes(machine, nodes), (1 + more, 4 + more))
        self.assertEqual((by_state(SMALL, 1), total(SMALL, 1), extremes(SMALL, 1)), ({(0,): 1}, (1, 0), (0, 0)))
        self.assertEqual((by_state(SMALL, 2), total(SMALL, 2), extremes(SMALL, 2)), ({}, (0, 0), None))

    def test_one_node(self):
        """Each leaf is one tree, also two of one state."""
        machine = ((0, 0, 0, 2, 0), 2, ((0, 0, (), 1), (1, 0, (), 4), (0, 1, (), 7), (1, 1, (), 10), (1, 2, (), 3)), ())
        self.assertEqual(by_state(machine, 1), {(0, 3): 2, (None, 0): 1, (None, None): 1})
        self.assertEqual(total(machine, 1), (2, 8))
        self.assertEqual(extremes(machine, 1), (1, 7))

    def test_without_leaves(self):
        for machine in (((1, 2), 2, ((0, 0, (0,), 1), (0, 1, (0, 1), 1)), ()), ((1,), 1, (), ())):
            for nodes in (1, 2, 3, 20):
                self.assertEqual(asked_twice(self, by_state, machine, nodes), {})
                self.assertEqual(total(machine, nodes), (0, 0))
                self.assertIsNone(extremes(machine, nodes))

    def test_goal_that_no_tree_reaches(self):
        amounts = amounts_of_trees((0, 1, 2), 20)
        for machine in (
            ((0, 1, 2), 1, (), ()), ((0, 1, 2), 4, (), ((1, 0, 3),)),
            ((0, 1, 2), 2, ((1, 0, (), 3), (1, 1, (1,), 1)), ((0, 1, 0),)),
            ((0, 1, 2), 1, ((0, 1, (0,), 3), (0, 2, (0, 0), 1)), ()),
        ):
            for nodes in (1, 2, 5, 20):
                self.assertEqual(sum(by_state(machine, nodes).values()), amounts[nodes])
                self.assertEqual(asked_twice(self, total, machine, nodes), (0, 0))
                self.assertIsNone(asked_twice(self, extremes, machine, nodes))
        self.assertEqual(by_state(((0, 1, 2), 1, (), ()), 4), {(None,): 4})

    def test_goal_that_some_trees_reach(self):
        """Only trees with an odd number of the operator have a goal price."""
        machine = ((0, 1), 2, ((1, 0, (), 3), (0, 1, (1,), 1), (1, 1, (0,), 2)), ())
        for nodes in range(1, 21):
            price = 3 + (nodes - 1) // 2 * 3 + (nodes - 1) % 2
            reached = nodes % 2 == 0
            self.assertEqual(by_state(machine, nodes), {((0, None) if reached else (None, 0)): 1})
            self.assertEqual(total(machine, nodes), (1, price) if reached else (0, 0))
            self.assertEqual(extremes(machine, nodes), (price, price) if reached else None)

    def test_a_changed_answer(self):
        """What the caller does with the dict is no matter of the next answer."""
        found = by_state(NEAR, 5)
        found[(0, 1)] = 99
        found[(0, 3)] = 5
        self.assertEqual(by_state(NEAR, 5), {(0, 1): 2})
        by_state(NEAR, 5).clear()
        self.assertEqual(by_state(NEAR, 5), {(0, 1): 2})
        self.assertEqual(total(NEAR, 5), (2, 2))
        self.assertIsInstance(found, dict)

    def test_by_name(self):
        self.assertEqual(by_state(nodes=3, machine=NEAR), {(0, 3): 1})
        self.assertEqual(total(nodes=5, machine=NEAR), (2, 2))
        self.assertEqual(extremes(nodes=5, machine=NEAR), (1, 1))


class AgainstAllTrees(unittest.TestCase):
    def test_one_by_one(self):
        seen = 0
        for machine in small_machines(120):
            rules = Rows(machine)
            by_size = {}
            for nested in all_trees(machine[0], 6):
                rows = by_size.setdefault(str(nested).count("("), [])
                rows.append(rules.of(nested))
            for nodes in range(1, 7):
                expected = told_of(by_size.get(nodes, []))
                self.assertEqual(asked_twice(self, by_state, machine, nodes), expected[0])
                self.assertEqual(asked_twice(self, total, machine, nodes), expected[1])
                self.assertEqual(asked_twice(self, extremes, machine, nodes), expected[2])
                seen += expected[2] is not None and expected[2][0] < expected[2][1]
        self.assertGreater(seen, 80)

    def test_by_rows(self):
        """More nodes, counted by the prices in all forms."""
        for machine in small_machines(40):
            for nodes, rows in enumerate(counted_rows(machine, 11)):
                if nodes == 0:
                    continue
                found = {}
                for row, many in rows.items():
                    state = state_of(row)[0]
                    found[state] = found.get(state, 0) + many
                goals = [(row[0], many) for row, many in rows.items() if row[0] is not None]
                self.assertEqual(by_state(machine, nodes), found)
                self.assertEqual(
                    total(machine, nodes), (sum([many for price, many in goals]), sum([price * many for price, many in goals]))
                )
                least = min([price for price, many in goals], default=None)
                greatest = max([price for price, many in goals], default=None)
                self.assertEqual(extremes(machine, nodes), None if least is None else (least, greatest))

    def test_states_of_few_nodes(self):
        machine = counters((4, 7), (1, 2))
        for nodes in (1, 2, 3, 8):
            rows = rows_by_size(machine[0], (machine,), nodes)[nodes]
            self.assertEqual(set(by_state(machine, nodes)), {state_of(row[0])[0] for row in rows})


class Many(unittest.TestCase):
    def test_up_to_20_nodes(self):
        """Together, all trees: far too many to be gone through."""
        for arities in ((0, 1, 2, 2, 0, 0), (0, 2), (0, 0, 2, 2, 2, 2), (0, 1, 1, 1, 1, 2)):
            amounts = amounts_of_trees(arities, 20)
            for seed in range(12):
                machine = machine_for(chance(seed), arities, 1 + seed % 4, 16, 6, 5)
                if is_small(machine):
                    for nodes in (10, 19, 20):
                        found = by_state(machine, nodes)
                        self.assertEqual(sum(found.values()), amounts[nodes])
                        self.assertLessEqual(set(found), set(states(machine)))
                        self.check_totals(machine, nodes, found)
        self.assertGreater(amounts[20], 10**12)

    def check_totals(self, machine, nodes, found):
        many, amount = total(machine, nodes)
        self.assertEqual(many, sum([trees for state, trees in found.items() if state[0] is not None]))
        told = extremes(machine, nodes)
        if many == 0:
            self.assertIsNone(told)
        else:
            self.assertLessEqual(told[0] * many, amount)
            self.assertGreaterEqual(told[1] * many, amount)

    def test_one_form_of_many_trees(self):
        """A leaf at 3 and an operator at 2: each tree costs as much as its nodes."""
        machine = ((0, 2), 1, ((0, 0, (), 3), (0, 1, (0, 0), 2)), ())
        # As many binary trees with nine inner nodes.
        self.assertEqual(by_state(machine, 19), {(0,): 4862})
        self.assertEqual(total(machine, 19), (4862, 4862 * 48))
        self.assertEqual(extremes(machine, 19), (48, 48))
        self.assertEqual(by_state(machine, 20), {})

    def test_extremes_of_many_trees(self):
        """Each of the operators may be the cheap or the dear one."""
        machine = ((0, 1, 1, 2, 2), 1, ((0, 0, (), 1), (0, 1, (0,), 0), (0, 2, (0,), 20), (0, 3, (0, 0), 1),
                                       (0, 4, (0, 0), 19)), ())
        self.assertEqual(extremes(machine, 20), (1, 1 + 19 * 20))
        self.assertEqual(extremes(machine, 2), (1, 21))
        self.assertEqual(extremes(machine, 3), (1, 41))

    def test_many_states(self):
        machine = counters((4, 7), (1, 2, None), ())
        self.assertEqual(len(states(machine)), 40)
        found = by_state(machine, 20)
        self.assertEqual(sum(found.values()), 3**19)
        self.assertEqual(total(machine, 20), (3**19, 0))
        wide = machine_for(chance(31), (0, 0, 1, 1, 2, 2), 3, 24, 12, 5)
        if is_small(wide):
            self.assertEqual(sum(by_state(wide, 20).values()), amounts_of_trees(wide[0], 20)[20])


class Limits(unittest.TestCase):
    def too_many(self, call, amount, limit):
        with self.assertRaises(TooMany) as caught:
            call()
        self.assertEqual((caught.exception.amount, caught.exception.limit), (amount, limit))

    def test_numbers_of_nodes(self):
        for nodes in (1, 20):
            for call in calls(NEAR, nodes):
                call()
        for nodes in wrong_values() + [None, 0, 21, -1, -20, 10**20, "1", 1.0, (1,), [1], {1: 1}, True, False]:
            for machine in (NEAR, GROWING, CROWD, WIDE):
                for call in calls(machine, nodes):
                    self.assertRaises(NoNodes, call)

    def test_40_and_41_states(self):
        both = ((0, 1, 1), 2, ((0, 0, (), 0), (1, 0, (), 0), (0, 1, (0,), 0), (1, 1, (1,), 1), (0, 2, (0,), 1),
                               (1, 2, (1,), 0)), ((0, 1, 20), (1, 0, 19)))
        for machine in (both, counters((4, 7), (1, 2))):
            self.assertEqual(len(states(machine)), 40)
            for nodes in (1, 20):
                for call in calls(machine, nodes):
                    call()
            more = ((*machine[0], 0),) + machine[1:]
            self.assertEqual(len(states(more)), 41)
            for call in calls(more, 1) + calls(more, 20):
                self.too_many(call, 41, 40)
        for call in calls(counters((4, 4, 7), (1, 2, 3)), 3):
            self.too_many(call, 200, 40)

    def test_states_that_cannot_be_told(self):
        for call in calls(GROWING, 1) + calls(GROWING, 20):
            self.assertRaises(Endless, call)
        for call in calls(CROWD, 1) + calls(counters((20, 20), (1, 2)), 20):
            self.too_many(call, 201, 200)

    def test_machines(self):
        for wrong in wrong_values() + [None, ()] + spoiled(SMALL):
            for call in calls(wrong, 1) + calls(wrong, 0) + calls(wrong, None):
                self.assertRaises(NoMachine, call)


if __name__ == "__main__":
    unittest.main()
