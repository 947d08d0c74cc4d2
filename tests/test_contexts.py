import itertools
import unittest

from codepick.chooser import state_tree, states, step
from codepick.contexts import goes, is_context, put
from codepick.errors import Endless, NoArities, NoContext, NoMachine, NoStates, NoTree, TooMany
from codepick.prices import prices, relative
from codepick.trees import height, is_tree, nodes, same
from brute import Rows, all_trees, state_of, written
from samples import (NEAR, NEAR_TREE, SMALL, WIDE, asked_twice, chain, chance, counters, doubled, likeness, machine_for,
                     part_at, places, replaced, some_machine, some_tree, spoiled, unshared, wrong_values)

LEAF = ((0,),)
ARITIES = (0, 1, 2)
# A step through the one place of an operator, and through each place of another one.
LONG = ((1, 0, ()), (2, 0, (LEAF,)), (2, 1, (((0,), (1, 0), (2, 1, 1)),)))


def filled(context, nested):
    """The nested tree that is a context with a nested tree in its hole."""
    for operator, place, siblings in context:
        parts = [unshared(sibling) for sibling in siblings]
        parts.insert(place, nested)
        nested = (operator, *parts)
    return nested


def some_context(dice, arities, most):
    """A context with up to so many steps."""
    steps = []
    if max(arities) > 0:
        for number in range(dice.randint(0, most)):
            operator = dice.choice([operator for operator, arity in enumerate(arities) if arity])
            siblings = tuple([some_tree(dice, arities, 5) for more in range(arities[operator] - 1)])
            steps.append((operator, dice.randrange(arities[operator]), siblings))
    return tuple(steps)


def all_contexts(arities, most, siblings):
    """All contexts with up to so many steps over these siblings."""
    steps = []
    for operator, arity in enumerate(arities):
        for place in range(arity):
            steps += [(operator, place, row) for row in itertools.product(siblings, repeat=arity - 1)]
    return [context for many in range(most + 1) for context in itertools.product(steps, repeat=many)]


def some_states(dice, forms):
    """States for so many forms, few of which any tree has."""
    found = [(None,) * forms, (0,) * forms]
    for number in range(4):
        row = [dice.choice((None, 0, 1, 2, 5, 40, 10**19)) for form in range(forms)]
        row[dice.randrange(forms)] = 0
        found.append(tuple(row))
    return found


class IsContext(unittest.TestCase):
    def test_contexts(self):
        for context in (
            (), LONG, LONG[:1], LONG[1:], LONG * 3, ((2, 0, (doubled(2, 100),)),), ((2, 1, (LEAF + LEAF,)),),
            ((1, 0, ()),) * 300,
        ):
            self.assertIs(asked_twice(self, is_context, ARITIES, context), True)
        self.assertIs(is_context((2,), ()), True)
        self.assertIs(is_context(thing=(), arities=(1,)), True)
        # No tree has these arities, so that there is none to stand beside a hole.
        self.assertIs(is_context((2,), ((0, 0, (LEAF,)),)), False)
        self.assertIs(is_context((1,), ((0, 0, ()),)), True)

    def test_steps_that_are_none(self):
        for wrong in (
            (0, 0, ()), (0, 0, (LEAF,)), (1, 0, (LEAF,)), (1, 1, ()), (1, -1, ()), (2, 2, (LEAF,)), (2, -1, (LEAF,)),
            (2, 0, ()), (2, 0, (LEAF, LEAF)), (2, 0, LEAF), (2, 0, LEAF[0]), (2, 0, ((),)), (2, 0, (((1, 0),),)),
            (2, 0, (((0,), (1, 1)),)), (2, 0, ([(0,)],)), (2, 0, [LEAF]), (3, 0, ()), (-1, 0, ()), (1, 0), (1, 0, (), ()),
            (True, 0, ()), (1, False, ()), (2, True, (LEAF,)), (1, 0, None), (1, 0, []), (1, 0, {}), [1, 0, ()], None,
            (2, 0, (((False,),),)), (2, 0, (((0,), (True, 0)),)), (2, 0, (((0,), (2, 0, False)),)), ("1", 0, ()),
        ):
            for context in ((wrong,), LONG + (wrong,), (wrong,) + LONG, LONG[:1] + (wrong,) + LONG[1:], wrong):
                self.assertIs(is_context(ARITIES, context), False, context)
                self.assertRaises(NoContext, put, ARITIES, context, LEAF)

    def test_any_value(self):
        for thing in wrong_values() + [None, 0, LEAF, [], list(LONG), [LONG], (LONG,), NEAR, {}, dict.fromkeys(LONG)]:
            self.assertIs(asked_twice(self, is_context, ARITIES, thing), False)
        for thing in spoiled(LONG):
            # A part may have been replaced by what is right there, too.
            if repr(thing) != repr(LONG) and is_context(ARITIES, thing):
                self.assertIs(is_tree(ARITIES, put(ARITIES, thing, LEAF)), True)
        for place in places(LONG):
            wrong = replaced(LONG, place, likeness(part_at(LONG, place)))
            self.assertIs(is_context(ARITIES, wrong), False)


class Put(unittest.TestCase):
    def put(self, arities, context, tree):
        found = asked_twice(self, put, arities, context, tree)
        self.assertIs(is_tree(arities, found), True)
        return found

    def test_empty_context(self):
        for tree in (LEAF, NEAR_TREE, doubled(1, 100)):
            self.assertIs(same(NEAR[0], self.put(NEAR[0], (), tree), tree), True)

    def test_places(self):
        for context, tree, expected in (
            (((1, 0, ()),), LEAF, (1, (0,))),
            (((2, 0, (LEAF,)),), ((0,), (1, 0)), (2, (1, (0,)), (0,))),
            (((2, 1, (LEAF,)),), ((0,), (1, 0)), (2, (0,), (1, (0,)))),
            (LONG, LEAF, (2, (2, (1, (0,)), (1, (0,))), (2, (1, (0,)), (0,)))),
        ):
            self.assertEqual(unshared(self.put(ARITIES, context, tree)), expected)
        self.assertEqual(unshared(put(tree=LEAF, context=LONG[:1], arities=ARITIES)), (1, (0,)))

    def test_against_nested_trees(self):
        for seed in range(200):
            dice = chance(seed)
            arities = (0, *[dice.randint(0, 2) for operator in range(seed % 4)])
            context = some_context(dice, arities, 4)
            tree = some_tree(dice, arities, 6)
            self.assertEqual(unshared(self.put(arities, context, tree)), filled(context, unshared(tree)))

    def test_needless_and_shared_nodes(self):
        sibling = ((0,), (1, 0), (0,), (2, 2, 2), (0,), (2, 3, 3))
        context = ((2, 0, (sibling,)), (2, 1, (sibling,)))
        tree = ((0,), (0,), (2, 0, 0), (1, 1))
        self.assertEqual(unshared(self.put(ARITIES, context, tree)), filled(context, unshared(tree)))

    def test_great_trees(self):
        """Neither the tree nor the siblings are gone through node by node."""
        great = doubled(2, 100)
        context = ((2, 0, (great,)), (1, 0, ()), (2, 1, (great,)))
        found = self.put(ARITIES, context, great)
        self.assertEqual(nodes(ARITIES, found), 3 * (2**100 - 1) + 3)
        self.assertEqual(height(ARITIES, found), 103)

    def test_many_steps(self):
        found = self.put(ARITIES, ((1, 0, ()),) * 1000, LEAF)
        self.assertIs(same(ARITIES, found, chain(1, 1001)), True)

    def test_wrong_inputs(self):
        for wrong in wrong_values() + [None, (), (3,), (0,) * 7, [0, 1], (0, True), NEAR]:
            self.assertRaises(NoArities, is_context, wrong, ())
            for context in ((), LONG, None):
                for tree in (LEAF, None):
                    self.assertRaises(NoArities, put, wrong, context, tree)
        for wrong in wrong_values() + [None, 0, list(LONG), [LONG]]:
            for tree in (LEAF, None, ()):
                self.assertRaises(NoContext, put, ARITIES, wrong, tree)
        for wrong in wrong_values() + [None, (), 0, [(0,)], ((1, 0),), (0,)]:
            for context in ((), LONG):
                self.assertRaises(NoTree, put, ARITIES, context, wrong)


class Goes(unittest.TestCase):
    def test_empty_context(self):
        for state in ((0, 0), (0, 7), (None, 0), (10**20, 0)):
            self.assertEqual(asked_twice(self, goes, NEAR, (), state), (state, 0))
        self.assertEqual(goes(NEAR, (), (None, None)), ((None, None), None))
        self.assertEqual(goes(state=(1, 0), context=(), machine=NEAR), ((1, 0), 0))

    def test_one_step(self):
        # The leaf's price in form 1 is none, so that the least one is 0; its state is (1, 0).
        self.assertEqual(goes(NEAR, ((1, 0, (LEAF,)),), (0, 0)), ((0, 2), 0))
        self.assertEqual(goes(NEAR, ((1, 0, (LEAF,)),), (0, 3)), ((0, 1), 1))
        self.assertEqual(goes(NEAR, ((1, 1, (LEAF,)),), (0, None)), ((0, 1), 1))
        self.assertEqual(goes(NEAR, ((1, 1, (LEAF,)),), (None, 0)), ((0, None), 0))
        self.assertEqual(goes(NEAR, ((1, 1, (LEAF,)),), (None, None)), ((None, None), None))

    def test_places(self):
        machine = ((0, 2), 2, ((0, 0, (), 4), (1, 0, (), 5), (0, 1, (0, 1), 3)), ())
        self.assertEqual(goes(machine, ((1, 0, (LEAF,)),), (0, None)), ((0, None), 8))
        self.assertEqual(goes(machine, ((1, 1, (LEAF,)),), (0, None)), ((None, None), None))
        self.assertEqual(goes(machine, ((1, 1, (LEAF,)),), (None, 0)), ((0, None), 7))

    def test_against_prices(self):
        """The growth is by how much the base is greater, the siblings' prices among it."""
        seen = 0
        for seed in range(200):
            dice = chance(seed)
            machine = some_machine(dice)
            if seed % 2:
                machine = machine_for(dice, ARITIES, 1 + seed // 2 % 4, 9, 3, 20)
            tree = some_tree(dice, machine[0], 5)
            context = some_context(dice, machine[0], 3)
            state, base = relative(prices(machine, tree))
            whole, whole_base = relative(prices(machine, put(machine[0], context, tree)))
            growth = None if whole_base is None else whole_base - base
            self.assertEqual(asked_twice(self, goes, machine, context, state), (whole, growth))
            seen += growth is not None and len(context) > 0
        self.assertGreater(seen, 40)

    def test_states_that_no_tree_has(self):
        """Each step is that of the chooser, over the siblings' states."""
        for seed in range(80):
            dice = chance(seed)
            machine = machine_for(dice, ARITIES, 1 + seed % 4, 9, 3, 20)
            context = some_context(dice, machine[0], 3)
            rows = Rows(machine)
            for state in some_states(dice, machine[1]):
                reached, total = state, None if state[0] is None and set(state) == {None} else 0
                for operator, place, siblings in context:
                    around = [state_of(rows.of(unshared(sibling))) for sibling in siblings]
                    parts = [known for known, base in around]
                    parts.insert(place, reached)
                    reached, growth = step(machine, operator, tuple(parts))
                    amounts = [total, growth] + [base for known, base in around]
                    total = None if None in amounts else sum(amounts)
                self.assertEqual(asked_twice(self, goes, machine, context, state), (reached, total))

    def test_all_contexts(self):
        """All contexts with up to two steps over trees with up to three nodes."""
        machine = ((0, 1, 2), 2, NEAR[2][:2] + ((1, 1, (0,), 4), (0, 2, (1, 0), 2), (1, 2, (1, 1), 3)), ((0, 1, 9),))
        rows = Rows(machine)
        siblings = [written(nested) for nested in all_trees(machine[0], 3)]
        for context in all_contexts(machine[0], 2, siblings):
            self.assertIs(is_context(machine[0], context), True)
            for tree in (LEAF, chain(1, 2)):
                state, base = state_of(rows.of(unshared(tree)))
                whole, whole_base = state_of(rows.of(filled(context, unshared(tree))))
                growth = None if whole_base is None else whole_base - base
                self.assertEqual(goes(machine, context, state), (whole, growth))

    def test_great_siblings(self):
        great = doubled(2, 90)
        machine = ((0, 1, 2), 1, ((0, 0, (), 2), (0, 1, (0,), 1), (0, 2, (0, 0), 1)), ())
        amount = 2 * 2**89 + 2**89 - 1
        self.assertEqual(goes(machine, ((2, 1, (great,)), (1, 0, ())), (0,)), ((0,), amount + 2))

    def test_great_numbers(self):
        state = (0, 10**20, None, 10**60)
        self.assertEqual(goes(WIDE, (), state), (state, 0))
        machine = ((0, 1), 2, ((0, 0, (), 0), (0, 1, (1,), 20)), ())
        self.assertEqual(goes(machine, ((1, 0, ()),), (0, 10**60)), ((0, None), 10**60 + 20))

    def test_infinitely_many_states(self):
        for machine, refusal in ((counters((None,), (1,)), Endless), (counters((None, None), (1, 2)), TooMany)):
            self.assertRaises(refusal, states, machine)
            state = (0,) * machine[1]
            found, growth = goes(machine, ((1, 0, ()),) * 50, state)
            self.assertEqual((found[:2], growth), ((0, 50), 0))

    def test_states_of_the_machine(self):
        for state in states(NEAR):
            tree = state_tree(NEAR, state)
            for context in (((1, 0, (tree,)),), ((1, 1, (NEAR_TREE,)), (1, 0, (LEAF,)))):
                whole = relative(prices(NEAR, put(NEAR[0], context, tree)))[0]
                self.assertEqual(goes(NEAR, context, state)[0], whole)

    def test_wrong_machines(self):
        for wrong in wrong_values() + [None] + spoiled(SMALL):
            self.assertRaises(NoMachine, goes, wrong, (), (0,))
            self.assertRaises(NoMachine, goes, wrong, None, None)

    def test_wrong_contexts(self):
        for wrong in wrong_values() + [None, 0, list(LONG), LONG, ((0, 0, ()),), ((1, 0, ()),), ((1, 2, (LEAF,)),)]:
            for state in ((0, 0), None, (1, 1)):
                self.assertRaises(NoContext, goes, NEAR, wrong, state)

    def test_wrong_states(self):
        wrong_ones = wrong_values() + [
            None, 0, (), (0,), (0, 0, 0), [0, 0], (1, 1), (1, None), (None, 2), (0, -1), (-1, 0), (0, True), (False, 1),
            (False, 0), (None, False), (0, "1"), (0, (1,)), ((0, 0),), (0, 1.0), {0: 0, 1: 0}, "00", (0, [None]),
        ]
        for wrong in wrong_ones:
            for context in ((), ((1, 0, (LEAF,)),)):
                self.assertRaises(NoStates, goes, NEAR, context, wrong)
        for wrong in ((0, 0), None, (1,), (None, None), (True,), (False,), (-1,)):
            self.assertRaises(NoStates, goes, SMALL, (), wrong)
        for fine in ((0,), (None,)):
            self.assertEqual(goes(SMALL, (), fine)[0], fine)


if __name__ == "__main__":
    unittest.main()
