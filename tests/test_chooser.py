import itertools
import unittest

from codepick.chooser import state_tree, states, step
from codepick.errors import Endless, NoMachine, NoOperator, NoStates, TooMany
from codepick.prices import prices, relative
from codepick.trees import is_tree
from brute import all_trees, row_over, state_of, written
from samples import (NEAR, NEAR_TREE, SMALL, WIDE, asked_twice, chance, counters, doubled, likeness, machine_for,
                     part_at, places, replaced, some_machine, some_tree, spoiled, wrong_values)

LEAF = ((0,),)

# Endless with two forms, and with more forms just too many.
GROWING = counters((None,), (1,))
CROWD = counters((None, 9), (1, 2))
# Its states are (0, 0, 0), (0, None, 1), (None, 0, None) and (None, None, None), one for each operator.
LEAVES = (
    (0, 0, 0, 0), 3, ((0, 0, (), 2), (1, 0, (), 2), (2, 0, (), 2), (0, 1, (), 3), (2, 1, (), 4), (1, 2, (), 5)), (),
)


def told(machine):
    """The states, or None where they cannot be told."""
    try:
        return states(machine)
    except (Endless, TooMany):
        return None


def key(state):
    return [10**30 if price is None else price for price in state]


class Step(unittest.TestCase):
    def test_near(self):
        for operator, arguments, answer in (
            (0, (), ((1, 0), 0)),
            (1, ((1, 0), (1, 0)), ((0, 3), 0)),
            (1, ((0, 3), (0, 3)), ((0, 1), 0)),
            (1, ((0, 3), (1, 0)), ((0, 1), 1)),
            (1, ((0, 1), (0, 1)), ((0, 1), 0)),
        ):
            self.assertEqual(asked_twice(self, step, NEAR, operator, arguments), answer)

    def test_by_name(self):
        self.assertEqual(step(machine=NEAR, operator=0, arguments=()), ((1, 0), 0))
        self.assertEqual(step(arguments=((1, 0), (1, 0)), operator=1, machine=NEAR), ((0, 3), 0))

    def test_kinds_of_the_answer(self):
        answer = step(NEAR, 1, ((1, 0), (0, 3)))
        self.assertEqual([type(part) for part in answer], [tuple, int])
        self.assertEqual([type(price) for price in answer[0]], [int, int])

    def test_no_price(self):
        machine = ((0, 1, 2), 2, ((0, 0, (), 5), (0, 1, (1,), 3), (0, 2, (0, 1), 4)), ())
        self.assertEqual(step(machine, 0, ()), ((0, None), 5))
        self.assertEqual(step(machine, 1, ((0, None),)), ((None, None), None))
        self.assertEqual(step(machine, 1, ((None, 0),)), ((0, None), 3))
        self.assertEqual(step(machine, 1, ((None, None),)), ((None, None), None))
        self.assertEqual(step(machine, 2, ((0, None), (0, None))), ((None, None), None))
        self.assertEqual(step(machine, 2, ((0, 7), (2, 0))), ((0, None), 4))
        self.assertEqual(step(machine, 2, ((2, 0), (0, 7))), ((0, None), 13))
        self.assertEqual(step(((0, 1), 1, (), ()), 0, ()), ((None,), None))

    def test_states_that_arise_from_no_tree(self):
        self.assertNotIn((0, 5), states(NEAR))
        self.assertEqual(step(NEAR, 1, ((0, 5), (17, 0))), ((0, 13), 5))
        great = 10**20 - 1
        self.assertEqual(step(NEAR, 1, ((0, great), (0, great))), ((0, 1), 0))
        self.assertEqual(step(NEAR, 1, ((great, 0), (great, 0))), ((0, 2 * great + 1), 0))

    def test_conversions(self):
        machine = ((0, 1), 4, ((3, 0, (), 9), (3, 1, (2,), 1)), ((3, 2, 2), (2, 1, 3), (1, 0, 4), (3, 0, 20)))
        self.assertEqual(step(machine, 0, ()), ((9, 5, 2, 0), 9))
        self.assertEqual(step(machine, 1, ((9, 5, 2, 0),)), ((9, 5, 2, 0), 3))
        self.assertEqual(step(machine, 1, ((0, None, None, 0),)), ((None,) * 4, None))

    def test_against_all_ways(self):
        """Also of states that no tree has, None among them."""
        for seed in range(150):
            dice = chance(seed)
            machine = machine_for(dice, (0, 1, 2), 1 + seed % 4, 10, 5)
            for number in range(6):
                rows = [tuple([dice.choice((None, 0, 1, 2, 30)) for form in range(machine[1])]) for part in range(2)]
                rows = [relative(row)[0] for row in rows]
                for operator in range(3):
                    arguments = tuple(rows[:machine[0][operator]])
                    expected = state_of(row_over(machine, operator, arguments))
                    self.assertEqual(step(machine, operator, arguments), expected)

    def test_states_and_bases_of_trees(self):
        """The state depends on the parts' states alone, and the growth is that of the base."""
        for seed in range(150):
            machine = some_machine(chance(seed), 12, 5)
            tree = some_tree(chance(seed + 5), machine[0], 8)
            told_parts = []
            for at, node in enumerate(tree):
                told_parts.append(relative(prices(machine, tree[:at + 1])))
                parts = [told_parts[part] for part in node[1:]]
                state, growth = step(machine, node[0], tuple([part[0] for part in parts]))
                self.assertEqual(state, told_parts[-1][0])
                if growth is None:
                    self.assertIsNone(told_parts[-1][1])
                else:
                    self.assertEqual(growth, told_parts[-1][1] - sum([part[1] for part in parts]))

    def test_no_operator(self):
        for operator in wrong_values() + [None, 2, "1", (0,), [0], {0: 0}, NoOperator()]:
            for arguments in ((), ((1, 0), (1, 0)), None, (True,)):
                self.assertRaises(NoOperator, step, NEAR, operator, arguments)
        self.assertRaises(NoOperator, step, SMALL, 1, ())
        self.assertRaises(NoOperator, step, ((0, 0), 1, (), ()), True, ())
        self.assertRaises(NoOperator, step, ((0, 0), 1, (), ()), False, ())
        self.assertEqual(step(WIDE, 5, ((0, 0, 0, 0),) * 2), ((5, 0, 25, 25), 7))
        self.assertRaises(NoOperator, step, WIDE, 6, ((0, 0, 0, 0),) * 2)

    def test_not_as_many_states_as_arguments(self):
        state = (1, 0)
        for operator, arguments in ((0, (state,)), (1, ()), (1, (state,)), (1, (state,) * 3), (1, state), (0, state),
                                    (1, (state,) * 4000)):
            self.assertRaises(NoStates, step, NEAR, operator, arguments)

    def test_no_states(self):
        for thing in wrong_values() + [None, 0, 1, [], {}, [(1, 0), (1, 0)], "", ((1, 0), [1, 0]), {(1, 0): 1}, NEAR]:
            self.assertRaises(NoStates, step, NEAR, 1, thing)
            self.assertRaises(NoStates, step, NEAR, 0, thing if thing != () else None)
            self.assertRaises(NoStates, step, NEAR, 1, ((1, 0), thing))
            self.assertRaises(NoStates, step, NEAR, 1, (thing, (1, 0)))
            if repr(thing) not in ("None", "0", "1", str(10**20 - 1)):
                self.assertRaises(NoStates, step, NEAR, 1, ((1, 0), (thing, 0)))
                self.assertRaises(NoStates, step, NEAR, 1, ((1, 0), (0, thing)))

    def test_the_least_price_of_a_state_is_0(self):
        for state in ((1, 1), (1, None), (None, 3), (2, 1), (), (0,), (0, 0, 0), (-1, 0), (0, -1), (0, None, None)):
            self.assertRaises(NoStates, step, NEAR, 1, (state, (1, 0)))
            self.assertRaises(NoStates, step, NEAR, 1, ((1, 0), state))
        for state in ((0, 0), (0, None), (None, 0), (None, None), (0, 10**20 - 1), (99, 0)):
            self.assertEqual(step(NEAR, 1, (state, state)), state_of(row_over(NEAR, 1, (state, state))))

    def test_bools_are_no_prices(self):
        for arguments in (((1, 0), (0, 3)), ((1, 0), (1, 0))):
            for place in places(arguments):
                thing = replaced(arguments, place, likeness(part_at(arguments, place)))
                self.assertRaises(NoStates, step, NEAR, 1, thing)
        self.assertRaises(NoStates, step, NEAR, 1, ((1, False), (1, 0)))
        self.assertRaises(NoStates, step, NEAR, 1, ((1, 0), (True, 0)))

    def test_no_machine(self):
        for machine in wrong_values() + spoiled(NEAR) + [None, 0, (), NEAR[:3]]:
            self.assertRaises(NoMachine, step, machine, 0, ())
            self.assertRaises(NoMachine, step, machine, None, None)


class States(unittest.TestCase):
    def test_short_session(self):
        self.assertEqual(asked_twice(self, states, NEAR), ((0, 1), (0, 3), (1, 0)))
        self.assertEqual(states(machine=NEAR), ((0, 1), (0, 3), (1, 0)))

    def test_no_leaf(self):
        for arities in ((1,), (2,), (1, 2, 2)):
            machine = (arities, 2, ((0, 0, (0,) * arities[0], 3),), ((0, 1, 2),))
            self.assertEqual(asked_twice(self, states, machine), ())
            self.assertEqual(states((arities, 4, (), ())), ())

    def test_one_form(self):
        self.assertEqual(states(SMALL), ((0,),))
        self.assertEqual(states(((0,), 1, (), ())), ((None,),))
        self.assertEqual(states(((0, 2), 1, ((0, 0, (), 20), (0, 1, (0, 0), 20)), ())), ((0,),))
        self.assertEqual(states(((0, 2), 1, ((0, 0, (), 20),), ())), ((0,), (None,)))

    def test_the_order(self):
        """None is as if greater than all integers."""
        rows = (
            (0, 2, (), 9), (1, 2, (), 0), (1, 3, (), 0), (0, 1, (), 0), (1, 1, (), 12), (0, 4, (), 0), (0, 0, (), 0),
            (1, 0, (), 2),
        )
        machine = ((0,) * 6, 2, rows, ())
        self.assertEqual(states(machine), ((0, 2), (0, 12), (0, None), (9, 0), (None, 0), (None, None)))
        self.assertEqual(asked_twice(self, states, LEAVES), ((0, 0, 0), (0, None, 1), (None, 0, None), (None,) * 3))

    def test_four_forms(self):
        machine = ((0, 1), 4, ((3, 0, (), 0), (0, 1, (3,), 1), (1, 1, (0,), 2), (2, 1, (1,), 3), (3, 1, (2,), 4)), ())
        ring = ((0, None, None, None), (None, 0, None, None), (None, None, 0, None), (None, None, None, 0))
        self.assertEqual(states(machine), ring)

    def test_states_with_two_arguments(self):
        machine = ((0, 2), 2, ((0, 0, (), 0), (1, 1, (0, 0), 0), (0, 1, (1, 0), 0)), ())
        self.assertEqual(states(machine), ((0, None), (None, 0), (None, None)))

    def test_the_states_are_what_trees_come_to(self):
        """They are closed under all operators, and each is that of its tree."""
        amount = 0
        for machine in self.told_machines():
            found = states(machine)
            self.assertEqual(list(found), sorted(found, key=key))
            self.assertEqual(len(set(found)), len(found))
            amount += len(found)
            for operator, arity in enumerate(machine[0]):
                for arguments in itertools.product(found[:15] if arity == 2 else found, repeat=arity):
                    self.assertIn(step(machine, operator, arguments)[0], found)
            for state in found[::1 + len(found) // 6]:
                tree = asked_twice(self, state_tree, machine, state)
                self.assertIs(is_tree(machine[0], tree), True)
                self.assertEqual(relative(prices(machine, tree))[0], state)
        self.assertGreater(amount, 900)

    def told_machines(self):
        found = [NEAR, SMALL, LEAVES, counters((19, 9), (1, 2)), counters((20, 2), (1, (2,)))]
        for seed in range(240):
            machine = machine_for(chance(seed), (0, 1, 2, 0)[:2 + seed % 3], 1 + seed % 4, 6 + seed % 8, 4, 3)
            if told(machine):
                found.append(machine)
        self.assertGreater(len(found), 150)
        return found

    def test_all_trees_with_a_few_nodes(self):
        for seed in range(80):
            machine = machine_for(chance(seed), (0, 1, 2), 1 + seed % 4, 9, 4, 3)
            found = told(machine)
            if found is not None:
                for nested in all_trees(machine[0], 6):
                    self.assertIn(relative(prices(machine, written(nested)))[0], found)

    def test_two_forms_that_can_be_converted_into_one_another(self):
        for seed in range(60):
            machine = machine_for(chance(seed), (0, 1, 2), 2, 12, 0, 20)
            dear = chance(seed).randint(0, 20)
            found = states(machine[:3] + (((0, 1, dear), (1, 0, 20)),))
            # With two forms there are at most so many, and both prices or none.
            self.assertLessEqual(len(found), 6 * 20 + 4)
            for state in found:
                self.assertTrue(state == (None, None) or (state[0] <= 20 and state[1] <= dear), state)

    def test_many_states_of_two_forms(self):
        self.assertEqual(len(states(counters((20,), (1,)))), 21)
        self.assertEqual(states(counters((20,), (1,), (0,)))[19:], ((0, 19), (0, 20), (None, None)))
        both = ((0, 1, 1), 2, ((0, 0, (), 0), (1, 0, (), 0), (0, 1, (0,), 0), (1, 1, (1,), 1), (0, 2, (0,), 1),
                               (1, 2, (1,), 0)), ((0, 1, 20), (1, 0, 20)))
        found = states(both)
        self.assertEqual(found, tuple([(0, more) for more in range(21)] + [(more, 0) for more in range(1, 21)]))

    def test_as_many_states_with_all_prices_times_an_integer(self):
        seen = 0
        for seed in range(120):
            machine = machine_for(chance(seed), (0, 1, 2), 1 + seed % 4, 7 + seed % 5, 4, 4)
            found = told(machine)
            for times in (2, 3, 5):
                rows = tuple([row[:3] + (row[3] * times,) for row in machine[2]])
                steps = tuple([row[:2] + (row[2] * times,) for row in machine[3]])
                more = told(machine[:2] + (rows, steps))
                if found is None:
                    self.assertIsNone(more)
                else:
                    greater = [tuple([None if price is None else price * times for price in row]) for row in found]
                    self.assertEqual(list(more), greater)
                    seen += len(found) > 2
        self.assertGreater(seen, 50)

    def test_endless(self):
        for machine in (GROWING, NEAR[:2] + (NEAR[2][:4],) + NEAR[3:], counters((None,), (1, (1,), None))):
            self.assertRaises(Endless, asked_twice, self, states, machine)
            self.assertRaises(Endless, state_tree, machine, (0, 0))
            self.assertRaises(Endless, state_tree, machine, None)

    def test_endless_in_the_other_form_alone(self):
        machine = ((0, 1), 2, ((0, 0, (), 0), (1, 0, (), 0), (0, 1, (0,), 1), (1, 1, (1,), 0)), ())
        self.assertRaises(Endless, states, machine)
        self.assertEqual(len(states(machine[:3] + (((1, 0, 7),),))), 8)
        self.assertRaises(Endless, states, machine[:3] + (((0, 1, 7),),))

    def test_200_and_201_states(self):
        for caps, moves in (((19, 9), (1, 2)), ((4, 4, 7), (1, 2, 3)), ((7, 4, 4), (3, 2, 1))):
            found = states(counters(caps, moves))
            self.assertEqual(len(found), 200)
            self.assertEqual(found, tuple(itertools.product((0,), *[range(cap + 1) for cap in caps])))
            # One more state, that of a leaf without an instruction.
            for more in (counters(caps, moves, (0,)), counters(caps, moves[:-1] + (moves[-1], 1), (0,))):
                self.too_many(more)

    def test_many_more_states(self):
        self.too_many(counters((20, 20, 20), (1, 2, 3)))
        self.too_many(counters((20, 20), (1, 2)))
        # They are even infinitely many, but with three forms this is not told.
        self.too_many(CROWD)
        self.too_many(counters((None, None, None), (1, 2, 3)))
        self.too_many(GROWING[:1] + (3,) + GROWING[2:])

    def too_many(self, machine):
        for call in (
            lambda: states(machine), lambda: state_tree(machine, (0,) * machine[1]), lambda: state_tree(machine, None),
        ):
            with self.assertRaises(TooMany) as raised:
                call()
            self.assertEqual((raised.exception.amount, raised.exception.limit), (201, 200))

    def test_no_machine(self):
        for machine in wrong_values() + spoiled(NEAR) + [None, 0, (), NEAR[:3]]:
            self.assertRaises(NoMachine, states, machine)
            self.assertRaises(NoMachine, state_tree, machine, (0, 1))
            self.assertRaises(NoMachine, state_tree, machine, None)


class StateTree(unittest.TestCase):
    def test_near(self):
        for state in states(NEAR):
            tree = asked_twice(self, state_tree, NEAR, state)
            self.assertEqual(relative(prices(NEAR, tree))[0], state)
        self.assertEqual(state_tree(machine=NEAR, state=(1, 0)), LEAF)
        self.assertEqual(state_tree(state=(1, 0), machine=NEAR), LEAF)

    def test_states_with_none(self):
        for state in states(LEAVES):
            self.assertEqual(relative(prices(LEAVES, state_tree(LEAVES, state)))[0], state)
        self.assertEqual(state_tree(LEAVES, (None, 0, None)), ((2,),))
        self.assertEqual(state_tree(LEAVES, (None, None, None)), ((3,),))

    def test_a_tree_that_is_high(self):
        tree = state_tree(counters((20,), (1,)), (0, 20))
        self.assertEqual(relative(prices(counters((20,), (1,)), tree)), ((0, 20), 0))

    def test_each_of_200(self):
        machine = counters((4, 4, 7), (1, 2, 3))
        for state in states(machine):
            self.assertEqual(relative(prices(machine, state_tree(machine, state)))[0], state)

    def test_no_state_of_the_machine(self):
        for state in wrong_values() + [
            None, 0, (), (0,), (0, 0), (0, 2), (0, 4), (1, 1), (None, None), (0, None), (0, 1, 0), [0, 1], (0, True),
            (False, 1), (False, True), (True, 0), (1, False), "01", {0: 1}, ((0, 1),), (0, (1,)), NoStates(),
            (10**20 - 1, 0), (0, "1"), (0, [1]),
        ]:
            self.assertRaises(NoStates, state_tree, NEAR, state)
        for state in spoiled((0, 3)):
            self.assertRaises(NoStates, state_tree, NEAR, state)

    def test_no_state_at_all(self):
        self.assertRaises(NoStates, state_tree, ((1,), 2, (), ()), (0, 0))
        self.assertRaises(NoStates, state_tree, ((1,), 2, (), ()), (None, None))

    def test_trees_are_short_however_great(self):
        machine = ((0, 2), 3, ((0, 0, (), 0), (1, 0, (), 1), (0, 1, (0, 0), 0), (1, 1, (1, 1), 0)), ((0, 1, 20),))
        tree = state_tree(machine, (0, 16, None))
        self.assertLess(len(tree), 100)
        self.assertEqual(prices(machine, tree), (0, 16, None))
        self.assertIn(prices(machine, doubled(1, 6)), ((0, 20, None),))
        self.assertEqual(relative(prices(NEAR, NEAR_TREE))[0], (0, 1))


if __name__ == "__main__":
    unittest.main()
