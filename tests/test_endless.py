import unittest

from codepick.chooser import states
from codepick.endless import finite, shows_finite
from codepick.errors import Endless, ManyForms, NoMachine
from codepick.prices import prices
from codepick.trees import is_tree, nodes
from brute import all_trees, rows_by_size, written
from samples import (NEAR, NEAR_TREE, SMALL, WIDE, asked_twice, chain, chance, counters, deep, doubled, likeness,
                     machine_for, part_at, places, replaced, spoiled, wrong_values)

LEAF = ((0,),)
# The short session's machine without its last instruction.
FAR = NEAR[:2] + (NEAR[2][:4],) + NEAR[3:]
# Each operator over the next one adds 1 to one of the prices.
GROWING = counters((None,), (1,))
# The prices differ by 0, 1, 3, 7, .. and so do those of trees with twice as many nodes each time.
DOUBLING = ((0, 2), 2, ((0, 0, (), 0), (1, 0, (), 0), (0, 1, (0, 0), 0), (1, 1, (1, 1), 1)), ())


def greatest(machine):
    return max([row[-1] for row in machine[2] + machine[3]], default=0)


def difference(row):
    """How far two prices are apart, 0 if there are not two."""
    known = [price for price in row if price is not None]
    return max(known, default=0) - min(known, default=0)


def some_machines(amount, arities=(0, 1, 2)):
    """Machines with one or two forms."""
    found = []
    for seed in range(amount):
        dice = chance(seed)
        forms = 1 if seed % 9 == 0 else 2
        instructions = dice.randint(2, 12)
        found.append(machine_for(dice, arities, forms, instructions, dice.choice((0, 0, 0, 1, 1, 2)), 3, seed % 2 == 0))
    return found


class Finite(unittest.TestCase):
    def test_short_session(self):
        self.assertEqual(asked_twice(self, finite, NEAR), ("finite", 3))
        answer = asked_twice(self, finite, FAR)
        self.assertEqual(answer[0], "endless")
        self.right_end(FAR, answer)

    def right_end(self, machine, answer):
        self.assertIs(type(answer), tuple)
        word, tree = answer
        self.assertEqual(word, "endless")
        self.assertIs(is_tree(machine[0], tree), True)
        row = prices(machine, tree)
        self.assertNotIn(None, row)
        self.assertGreater(difference(row), 3 * greatest(machine))
        self.assertRaises(Endless, states, machine)
        self.assertIs(shows_finite(machine, answer), True)

    def test_by_name(self):
        self.assertEqual(finite(machine=NEAR), ("finite", 3))
        self.assertIs(shows_finite(machine=NEAR, thing=("finite", 3)), True)
        self.assertIs(shows_finite(thing=("finite", 4), machine=NEAR), False)

    def test_no_tree_has_two_prices(self):
        for machine in (
            SMALL, ((0,), 1, (), ()), ((0, 2), 1, ((0, 0, (), 7), (0, 1, (0, 0), 20)), ()),
            ((1,), 2, ((0, 0, (0,), 5),), ((0, 1, 3),)), ((2, 2, 1), 1, (), ()),
            ((0,), 2, (), ()), ((0, 1), 2, ((0, 0, (), 5), (1, 1, (0,), 9)), ()),
        ):
            self.assertEqual(asked_twice(self, finite, machine), ("finite", 0))
            self.assertIs(shows_finite(machine, ("finite", 0)), True)
            self.assertIs(shows_finite(machine, ("finite", False)), False)

    def test_prices_in_either_form_may_be_greater(self):
        self.assertEqual(finite(((0,), 2, ((0, 0, (), 9), (1, 0, (), 2)), ())), ("finite", 7))
        self.assertEqual(finite(((0,), 2, ((0, 0, (), 2), (1, 0, (), 9)), ())), ("finite", 7))
        self.assertEqual(finite(((0, 0), 2, ((0, 0, (), 2), (1, 0, (), 9), (0, 1, (), 11)), ((0, 1, 8),)))[1], 8)

    def test_trees_with_one_price_do_not_count(self):
        machine = ((0, 0), 2, ((0, 0, (), 20), (0, 1, (), 3), (1, 1, (), 4)), ())
        self.assertEqual(finite(machine), ("finite", 1))

    def test_no_prices_but_0(self):
        for seed in range(60):
            machine = machine_for(chance(seed), (0, 1, 2), 2, 10, 1, 0)
            self.assertEqual(finite(machine), ("finite", 0))
            self.assertEqual(finite(((0, 1, 2), 2, (), ())), ("finite", 0))

    def test_the_greatest_difference_there_is(self):
        found = 0
        for machine in some_machines(300):
            answer = finite(machine)
            if answer[0] == "endless":
                self.right_end(machine, answer)
            else:
                # All states are those of trees, as their own tests show.
                self.assertEqual(answer, ("finite", max([difference(state) for state in states(machine)], default=0)))
                self.assertIs(type(answer[1]), int)
                self.assertLessEqual(answer[1], 3 * greatest(machine))
                found += answer[1] > 2
        self.assertGreater(found, 20)

    def test_all_trees_with_a_few_nodes(self):
        reached = []
        for machine in some_machines(120):
            answer = finite(machine)
            most = 0
            for rows in rows_by_size(machine[0], (machine,), 9):
                most = max([most] + [difference(row) for row, in rows])
            if answer[0] == "finite":
                self.assertLessEqual(most, answer[1])
                reached.append(most == answer[1])
        self.assertGreater(len(reached), 50)
        self.assertGreater(sum(reached), len(reached) * 9 // 10)

    def test_trees_tell_that_there_is_no_end(self):
        """Where a tree with a few nodes is beyond 3 * P there are infinitely many states."""
        seen = 0
        for machine in some_machines(300):
            for nested in all_trees(machine[0], 6):
                if difference(prices(machine, written(nested))) > 3 * greatest(machine):
                    self.assertEqual(finite(machine)[0], "endless")
                    seen += 1
        self.assertGreater(seen, 30)

    def test_a_tree_with_far_too_many_nodes(self):
        dear = ((0, 1, 2), 2, ((0, 0, (), 20), (1, 0, (), 20), (0, 1, (0,), 0), (1, 1, (1,), 1), (0, 2, (0, 0), 0),
                               (1, 2, (1, 1), 0)), ((0, 1, 20),))
        self.assertEqual(finite(dear), ("finite", 20))
        answer = finite(dear[:3] + ((),))
        self.right_end(dear[:3] + ((),), answer)
        # The leaves are alike at first, and only trees with a million of the one are far from those with the other.
        slow = ((0, 0, 2), 2, ((0, 0, (), 0), (1, 0, (), 1), (0, 1, (), 1), (1, 1, (), 0), (0, 2, (0, 0), 20),
                               (1, 2, (1, 1), 20)), ())
        self.right_end(slow, asked_twice(self, finite, slow))
        self.right_end(DOUBLING, asked_twice(self, finite, DOUBLING))

    def test_at_most_one_argument(self):
        """Then the states are infinitely many if a tree is beyond 2 * P; the told one is beyond 3 * P all the same."""
        seen = 0
        for machine in some_machines(300, (0, 1, 1)):
            answer = finite(machine)
            if answer[0] == "endless":
                self.right_end(machine, answer)
                seen += 1
            else:
                self.assertLessEqual(answer[1], 2 * greatest(machine))
        self.assertGreater(seen, 30)
        self.right_end(GROWING, finite(GROWING))
        self.right_end(counters((None,), (1, (1,), None)), finite(counters((None,), (1, (1,), None))))
        # There is a tree beyond 2 * P, but those beyond 3 * P have more nodes.
        slow = ((0, 1), 2, ((0, 0, (), 0), (1, 0, (), 20), (0, 1, (0,), 19), (1, 1, (1,), 20)), ())
        self.right_end(slow, finite(slow))
        self.assertGreater(nodes(slow[0], finite(slow)[1]), 40)

    def test_no_arguments(self):
        for machine in some_machines(100, (0, 0, 0)):
            word, most = finite(machine)
            self.assertEqual(word, "finite")
            self.assertLessEqual(most, greatest(machine))
        edge = ((0,), 2, ((0, 0, (), 0), (1, 0, (), 20)), ())
        self.assertEqual(finite(edge), ("finite", 20))

    def test_two_forms_that_can_be_converted_into_one_another(self):
        for machine in some_machines(100):
            if machine[1] == 2:
                answer = finite(machine[:3] + (machine[3] + ((0, 1, 20), (1, 0, 20)),))
                self.assertEqual(answer[0], "finite")
                self.assertLessEqual(answer[1], 20)
                self.assertIs(shows_finite(machine[:3] + (machine[3] + ((0, 1, 20), (1, 0, 20)),), answer), True)

    def test_just_3_times_the_greatest_price(self):
        """Trees at 3 * P, and none beyond, leave the states finitely many."""
        tree = ((0,), (1, 0, 0))
        self.assertEqual(prices(NEAR, tree), (0, 3))
        self.assertEqual((greatest(NEAR), finite(NEAR)), (1, ("finite", 3)))
        self.assertIs(shows_finite(NEAR, ("endless", tree)), False)
        # Here just one further node is needed.
        machine = ((0, 2), 2, ((0, 0, (), 0), (1, 0, (), 1), (0, 1, (0, 0), 0), (1, 1, (1, 1), 1)), ())
        self.assertEqual(prices(machine, tree), (0, 3))
        self.assertIs(shows_finite(machine, ("endless", tree)), False)
        self.assertIs(shows_finite(machine, ("endless", tree + ((1, 1, 0),))), True)
        self.right_end(machine, finite(machine))


class ShowsFinite(unittest.TestCase):
    def test_just_this_difference(self):
        for machine in [NEAR] + some_machines(60):
            answer = finite(machine)
            for most in range(-1, 10):
                self.assertIs(asked_twice(self, shows_finite, machine, ("finite", most)), answer == ("finite", most))

    def test_any_tree_that_is_so(self):
        seen = 0
        cheap = [machine_for(chance(seed), (0, 1, 2), 2, 6, 0, 1, True) for seed in range(20)]
        for machine in [FAR, NEAR, GROWING, DOUBLING] + some_machines(60) + cheap:
            for nested in all_trees(machine[0], 6):
                tree = written(nested)
                far = difference(prices(machine, tree)) > 3 * greatest(machine)
                self.assertIs(shows_finite(machine, ("endless", tree)), far)
                self.assertIs(shows_finite(machine, ("finite", tree)), False)
                seen += far
        self.assertGreater(seen, 30)

    def test_trees_with_very_many_nodes(self):
        self.assertIs(shows_finite(DOUBLING, ("endless", doubled(1, 2))), False)
        self.assertIs(shows_finite(DOUBLING, ("endless", doubled(1, 3))), False)
        self.assertIs(shows_finite(DOUBLING, ("endless", ((0,), (1, 0, 0), (1, 1, 1), (1, 2, 0)))), True)
        self.assertIs(shows_finite(DOUBLING, ("endless", doubled(1, 100))), True)
        self.assertIs(shows_finite(NEAR, ("endless", doubled(1, 100))), False)
        self.assertIs(shows_finite(FAR, ("endless", doubled(1, 100) + ((0,),))), False)
        self.assertIs(shows_finite(GROWING, ("endless", chain(1, 4))), False)
        self.assertIs(shows_finite(GROWING, ("endless", chain(1, 5))), True)
        self.assertIs(shows_finite(GROWING, ("endless", chain(1, 100))), True)

    def test_trees_with_one_price_are_not_far(self):
        machine = ((0, 1), 2, ((0, 0, (), 1), (0, 1, (0,), 1)), ())
        self.assertIs(shows_finite(machine, ("endless", chain(1, 100))), False)
        self.assertIs(shows_finite(((0, 1), 2, (), ()), ("endless", chain(1, 100))), False)

    def test_any_value(self):
        end = finite(FAR)
        for machine, answer in ((NEAR, ("finite", 3)), (FAR, end), (SMALL, ("finite", 0)), (GROWING, finite(GROWING))):
            self.assertIs(shows_finite(machine, answer), True)
            for thing in wrong_values() + spoiled(answer)[:2000] + [
                None, 0, (), answer[:1], answer[1:], answer + answer[1:], answer + ((),), list(answer), dict([answer]),
                (answer,), answer[::-1], {answer[0]: 0}, {answer[1]: answer[0]}, answer[0], answer[1], ManyForms(),
                ("finite",), ("endless",), ("finite", None), ("finite", "3"), ("finite", (3,)), ("finite", [3]),
                ("finite", 3, 3), ("endless", None), ("endless", ()), ("endless", 3), ("Finite", answer[1]),
                ("endless", ((9,),)), ("endless", ((1, 0, 0),)), ("", answer[1]), (None, answer[1]),
                (True, answer[1]), (("finite",), 3), (["finite"], 3), ({}, 3), ("finite", True), ("finite", False),
                ("finite", {}), ("endless", {}), ("finite", deep(tuple, 20)), ("endless", deep(list, 20)),
                ("endless", NEAR_TREE), ("endless", list(end[1])), ("endless", end[1], end[1]), ("x", end[1]),
                ("finite", -3), ("finite", 10**20 - 1), ("alike",),
            ]:
                self.assertIs(shows_finite(machine, thing), False, thing)

    def test_bools_are_no_integers(self):
        one = ((0,), 2, ((0, 0, (), 0), (1, 0, (), 1)), ())
        self.assertIs(shows_finite(one, ("finite", 1)), True)
        self.assertIs(shows_finite(one, ("finite", True)), False)
        self.assertIs(shows_finite(SMALL, ("finite", 0)), True)
        self.assertIs(shows_finite(SMALL, ("finite", False)), False)
        tree = ((0,), (1, 0, 0), (1, 1, 0))
        machine = ((0, 2), 2, ((0, 0, (), 0), (1, 0, (), 1), (0, 1, (0, 0), 0), (1, 1, (1, 1), 1)), ())
        self.assertIs(shows_finite(machine, ("endless", tree)), True)
        for place in places(tree):
            thing = ("endless", replaced(tree, place, likeness(part_at(tree, place))))
            self.assertIs(shows_finite(machine, thing), False)

    def test_a_tree_for_other_arities(self):
        self.assertIs(shows_finite(GROWING, ("endless", finite(FAR)[1])), False)
        self.assertIs(shows_finite(FAR, ("endless", finite(GROWING)[1])), False)


class Refusals(unittest.TestCase):
    def test_many_forms(self):
        for machine in (
            ((0,), 3, (), ()), ((0,), 4, (), ()), WIDE, counters((2, 2), (1, 2)), counters((None,) * 3, (1, 2, 3)),
            ((1,), 3, (), ()),
        ):
            self.assertRaises(ManyForms, finite, machine)
            for thing in (None, ("finite", 0), ("finite", 2), ("endless", LEAF), [], True):
                self.assertRaises(ManyForms, shows_finite, machine, thing)

    def test_no_machine(self):
        for machine in wrong_values() + spoiled(NEAR) + [None, 0, (), NEAR[:3], ((0,), 5, (), ())]:
            self.assertRaises(NoMachine, finite, machine)
            self.assertRaises(NoMachine, shows_finite, machine, ("finite", 3))
            self.assertRaises(NoMachine, shows_finite, machine, None)


if __name__ == "__main__":
    unittest.main()
