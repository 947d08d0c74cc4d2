import itertools
import unittest

from codepick.chooser import states
from codepick.errors import Endless, NoMachine, NoNumber, NoNumbers, TooMany
from codepick.needless import fewest, needing, needless, never_used, shows_needing, together
from codepick.prices import prices
from codepick.trees import is_tree, nodes
from brute import Covers, Rows, all_trees, all_ways, rows_by_size, state_of, written
from samples import (NEAR, NEAR_TREE, SMALL, WIDE, asked_twice, chain, chance, counters, deep, doubled, is_small,
                     machine_for, numbers_of, priced, reduced, some_machine, spoiled, wrong_values)

LEAF = ((0,),)
# Each instruction and each conversion stands there twice.
TWICE = ((0, 1), 2, ((0, 0, (), 1), (0, 0, (), 1), (1, 1, (0,), 2), (1, 1, (0,), 2)), ((1, 0, 3), (1, 0, 3)))
# Conversions at no price lead round.
ROUND = ((0, 1), 3, ((1, 0, (), 1), (2, 1, (2,), 0)), ((0, 1, 0), (1, 2, 0), (2, 0, 0), (1, 0, 0), (1, 0, 20)))
# Instruction 2 is as cheap as 0 and 1 together, so that no tree needs one of the three.
TRIPLE = ((0, 1), 2, ((1, 0, (), 1), (0, 1, (1,), 1), (0, 1, (1,), 1)), ())
# Operator 1 is needed only 20 times above one another: until then 2 is as cheap.
LATE = counters((19,), (1, (1,)))
GROWING = counters((None,), (1, (1,)))
CROWD = counters((None, None), (1, 2))


def small_machines(amount, instructions=7, conversions=3):
    """Machines with few states, with all numbers of forms and with shapes of all kinds."""
    found = [NEAR, SMALL, TWICE, ROUND, TRIPLE]
    for seed in range(amount):
        dice = chance(seed)
        arities = ((0, 1), (0, 0, 2), (0, 1, 2), (0, 2))[seed % 4]
        forms = 1 + seed // 4 % 4
        machine = machine_for(dice, arities, forms, dice.randint(3, instructions), dice.randint(0, conversions), 3)
        if seed % 5 == 0:
            machine = some_machine(dice, instructions, conversions)
        if is_small(machine):
            found.append(machine)
    return found


def differs(machine, numbers, most=7):
    """Whether some tree with up to so many nodes has another goal price without these numbers."""
    by_size = rows_by_size(machine[0], (machine, reduced(machine, numbers)), most)
    return any(one[0] != other[0] for rows in by_size for one, other in rows)


class Uses:
    """For each tree its state, and for each form all numbers in its covers with the least price."""

    def __init__(self, machine):
        self.machine = machine
        self.ways = {}
        for start, end in itertools.product(range(machine[1]), repeat=2):
            self.ways[start, end] = all_ways(machine, start, end)

    def over(self, operator, parts):
        row = []
        for form in range(self.machine[1]):
            found = []
            for number, (made, computed, arguments, price) in enumerate(self.machine[2]):
                taken = [(part[0][wanted], part[1][wanted]) for part, wanted in zip(parts, arguments)]
                if computed == operator and None not in [cost for cost, used in taken]:
                    for way, more in self.ways[made, form]:
                        used = frozenset((number, *way)).union(*[used for cost, used in taken])
                        found.append((price + more + sum([cost for cost, used in taken]), used))
            least = min([cost for cost, used in found], default=None)
            row.append((least, frozenset().union(*[used for cost, used in found if cost == least])))
        return state_of(tuple([cost for cost, used in row]))[0], tuple([used for cost, used in row])

    def used(self, most):
        """What is used by trees with up to so many nodes."""
        by_size = [{}]
        for size in range(1, most + 1):
            found = {}
            for operator, arity in enumerate(self.machine[0]):
                for sizes in itertools.product(range(1, size), repeat=arity):
                    if sum(sizes) == size - 1:
                        for parts in itertools.product(*[by_size[many] for many in sizes]):
                            found[self.over(operator, parts)] = True
            by_size.append(found)
        return frozenset().union(*[value[1][0] for found in by_size for value in found])


def calls(machine):
    """All functions that look at all trees."""
    return [
        lambda: needless(machine), lambda: never_used(machine), lambda: together(machine, ()),
        lambda: needing(machine, 0), lambda: fewest(machine),
    ]


class Examples(unittest.TestCase):
    def test_short_session(self):
        self.assertEqual(asked_twice(self, needless, NEAR), (3,))
        self.assertEqual(fewest(NEAR), (0, 1, 2, 4))
        self.assertIs(together(NEAR, (3,)), True)
        self.assertIsNone(needing(NEAR, 3))
        for number in (0, 1, 2, 4):
            tree = needing(NEAR, number)
            self.assertIs(shows_needing(NEAR, number, tree), True)
            self.assertIs(together(NEAR, (number,)), False)

    def test_never_used_of_the_short_session(self):
        # Form 1 of the operator, from two arguments in form 0, is what the operator above would take.
        self.assertEqual(never_used(NEAR), ())
        self.assertEqual(never_used(NEAR[:2] + (NEAR[2] + ((0, 1, (1, 0), 20),),) + NEAR[3:]), (5,))

    def test_equal_ones_told_twice(self):
        self.assertEqual(needless(TWICE), (0, 1, 2, 3, 4, 5))
        self.assertEqual(never_used(TWICE), ())
        self.assertEqual(fewest(TWICE), (0, 2, 4))
        for numbers in ((), (0,), (1,), (0, 2), (1, 3, 5), (0, 3, 4)):
            self.assertIs(together(TWICE, numbers), True)
        for numbers in ((0, 1), (2, 3), (4, 5), (0, 1, 2), (0, 1, 2, 3, 4, 5)):
            self.assertIs(together(TWICE, numbers), False)

    def test_conversions_that_lead_round(self):
        # (1, 0, 0) is as good as the way round, and nothing takes (0, 1, 0) or (1, 0, 20).
        self.assertEqual(needless(ROUND), (2, 5, 6))
        self.assertEqual(never_used(ROUND), (2, 6))
        self.assertEqual(fewest(ROUND), (0, 1, 3, 4))
        self.assertIs(together(ROUND, (2, 5, 6)), True)
        self.assertIs(together(ROUND, (4, 5)), False)

    def test_needed_together_only(self):
        self.assertEqual(needless(TRIPLE), (1, 2))
        self.assertIs(together(TRIPLE, (1, 2)), False)
        self.assertEqual(fewest(TRIPLE), (0, 1))
        self.assertEqual(fewest(TRIPLE[:2] + (TRIPLE[2][::-1],) + TRIPLE[3:]), (0, 2))

    def test_the_first_of_the_smallest_is_not_the_first_of_all(self):
        # 0, 1 and 4 are needless, two of them together, and without 4 either of the others can stand for both.
        machine = ((0, 1), 2, ((0, 0, (), 0), (1, 0, (), 0), (0, 1, (1,), 0)), ((0, 1, 0), (1, 0, 0)))
        self.assertEqual(needless(machine), (0, 1, 4))
        self.assertEqual(fewest(machine), (0, 2, 3))
        for numbers, expected in (((0, 1), False), ((0, 4), False), ((1, 4), True), ((0, 1, 4), False)):
            self.assertIs(together(machine, numbers), expected)
        # Three numbers are fewer than four, though the tuple of four stands ahead of it as tuples compare.
        wide = ((0, 0), 2, ((1, 0, (), 0), (1, 1, (), 1), (0, 0, (), 0), (0, 1, (), 1)), ((1, 0, 0),))
        self.assertEqual(fewest(wide), (2, 3))

    def test_without_instructions(self):
        for forms in (1, 2, 3, 4):
            steps = tuple([(form, 0, form) for form in range(1, forms)])
            for machine in (((0, 1), forms, (), ()), ((2, 0), forms, (), steps), ((2,), forms, (), steps)):
                everything = tuple(numbers_of(machine))
                self.assertEqual(needless(machine), everything)
                self.assertEqual(never_used(machine), everything)
                self.assertEqual(fewest(machine), ())
                self.assertIs(together(machine, everything), True)
                for number in everything:
                    self.assertIsNone(needing(machine, number))
                    self.assertIs(shows_needing(machine, number, ((1, ), )), False)

    def test_goal_that_nothing_reaches(self):
        for forms in (2, 3, 4):
            rows = tuple([(form, 0, (), form) for form in range(1, forms)]) + ((1, 1, (1,), 0),)
            machine = (0, 1), forms, rows, ((0, 1, 0),)
            everything = tuple(numbers_of(machine))
            self.assertEqual(needless(machine), everything)
            self.assertEqual(never_used(machine), everything)
            self.assertEqual(fewest(machine), ())
            self.assertIs(together(machine, everything), True)
            self.assertIs(shows_needing(machine, 0, LEAF), False)

    def test_without_leaves(self):
        machine = ((1, 2), 1, ((0, 0, (0,), 1), (0, 1, (0, 0), 1)), ())
        self.assertEqual((needless(machine), never_used(machine), fewest(machine)), ((0, 1), (0, 1), ()))

    def test_no_goal_price_without_it(self):
        self.assertEqual(needless(SMALL), ())
        self.assertEqual(needing(SMALL, 0), LEAF)
        self.assertEqual(fewest(SMALL), (0,))
        self.assertEqual(never_used(SMALL), ())
        self.assertIs(together(SMALL, ()), True)
        self.assertIs(together(SMALL, (0,)), False)

    def test_infinitely_many_states_without_it(self):
        """NEAR has three states, and without its last instruction infinitely many."""
        self.assertRaises(Endless, states, reduced(NEAR, (4,)))
        self.assertIs(together(NEAR, (4,)), False)
        tree = needing(NEAR, 4)
        self.assertIs(shows_needing(NEAR, 4, tree), True)
        # A conversion bounds the states of a goal that does not need it.
        machine = ((0, 1), 2, ((0, 0, (), 0), (1, 0, (), 0), (0, 1, (0,), 0), (1, 1, (1,), 1)), ((0, 1, 3),))
        self.assertRaises(Endless, states, reduced(machine, (4,)))
        self.assertEqual(needless(machine), (1, 3, 4))
        self.assertEqual(fewest(machine), (0, 2))
        self.assertIs(together(machine, (1, 3, 4)), True)

    def test_needed_by_great_trees_only(self):
        """The conversion is cheaper than counting only from 20 on."""
        conversion = len(LATE[2])
        tree = needing(LATE, conversion)
        self.assertIs(shows_needing(LATE, conversion, tree), True)
        self.assertGreater(len(tree), 20)
        self.assertNotIn(conversion, needless(LATE))
        self.assertIs(shows_needing(LATE, conversion, chain(1, 20) + ((2, 19),)), False)
        self.assertIs(shows_needing(LATE, conversion, chain(1, 21) + ((2, 20),)), True)

    def test_by_name(self):
        self.assertEqual(needless(machine=NEAR), (3,))
        self.assertEqual(never_used(machine=NEAR), ())
        self.assertEqual(fewest(machine=NEAR), (0, 1, 2, 4))
        self.assertIs(together(numbers=(3,), machine=NEAR), True)
        self.assertIsNone(needing(number=3, machine=NEAR))
        self.assertIs(shows_needing(thing=NEAR_TREE, number=3, machine=NEAR), False)


class AgainstAllTrees(unittest.TestCase):
    def test_needless_and_needing(self):
        needed = spare = 0
        for machine in small_machines(200):
            told = asked_twice(self, needless, machine)
            self.assertEqual(told, tuple(sorted(set(told))))
            for number in numbers_of(machine):
                tree = asked_twice(self, needing, machine, number)
                self.assertEqual(tree is None, number in told)
                if number in told:
                    self.assertIs(differs(machine, (number,), 6), False)
                    spare += 1
                else:
                    self.assertIs(is_tree(machine[0], tree), True)
                    price = prices(machine, tree)[0]
                    self.assertIsNotNone(price)
                    self.assertNotEqual(prices(reduced(machine, (number,)), tree)[0], price)
                    self.assertIs(shows_needing(machine, number, tree), True)
                    needed += 1
        self.assertGreater(needed, 200)
        self.assertGreater(spare, 200)

    def test_shows_needing(self):
        seen = {True: 0, False: 0}
        for seed in range(60):
            dice = chance(seed)
            # Also machines with infinitely many states.
            machine = machine_for(dice, (0, 1, 2), 1 + seed % 4, dice.randint(3, 8), dice.randint(0, 4), 4)
            whole = Rows(machine)
            trees = all_trees(machine[0], 5)
            for number in numbers_of(machine):
                less = Rows(reduced(machine, (number,)))
                for nested in trees:
                    price = whole.of(nested)[0]
                    expected = price is not None and less.of(nested)[0] != price
                    self.assertIs(shows_needing(machine, number, written(nested)), expected)
                    seen[expected] += 1
        self.assertGreater(min(seen.values()), 500)

    def test_together(self):
        seen = {True: 0, False: 0}
        for at, machine in enumerate(small_machines(120, 6)):
            dice = chance(at)
            spare = needless(machine)
            for many in range(5):
                among = spare if many % 2 else tuple(numbers_of(machine))
                numbers = tuple(sorted(dice.sample(among, min(len(among), many))))
                told = asked_twice(self, together, machine, numbers)
                self.assertIs(told, not differs(machine, numbers), (machine, numbers))
                seen[told] += len(numbers) > 1
        self.assertGreater(min(seen.values()), 40)

    def test_fewest(self):
        smaller = 0
        for machine in small_machines(80, 5, 2):
            numbers = tuple(numbers_of(machine))
            if len(numbers) > 7:
                continue
            tuples = [kept for many in range(len(numbers) + 1) for kept in itertools.combinations(numbers, many)]
            for kept in tuples:
                if not differs(machine, tuple([number for number in numbers if number not in kept])):
                    break
            self.assertEqual(asked_twice(self, fewest, machine), kept, machine)
            smaller += len(numbers) - len(kept) > 1
        self.assertGreater(smaller, 15)

    def test_used_in_covers(self):
        """What stands in a cover with the least price is not told as never used."""
        seen = 0
        for machine in small_machines(100, 6):
            covers = Covers(machine)
            used = {}
            for nested in all_trees(machine[0], 4):
                found = covers.all_of(nested, 0)
                least = min([price for cover, price in found], default=None)
                for cover, price in found:
                    if price == least:
                        used.update({number: True for first, way in cover for number in (first, *way)})
            self.assertFalse(set(used) & set(never_used(machine)), machine)
            seen += len(used)
        self.assertGreater(seen, 200)

    def test_never_used(self):
        seen = 0
        for machine in small_machines(160, 6):
            used = Uses(machine).used(8)
            told = asked_twice(self, never_used, machine)
            self.assertEqual(told, tuple([number for number in numbers_of(machine) if number not in used]), machine)
            # These are needless together.
            self.assertIs(together(machine, told), True)
            self.assertLessEqual(set(told), set(needless(machine)))
            seen += 0 < len(told) < len(numbers_of(machine))
        self.assertGreater(seen, 50)


class Many(unittest.TestCase):
    def test_many_states(self):
        """Trees that need something are far too many to be gone through."""
        machine = counters((4, 7), (1, 2, (1,), (2,)))
        self.assertEqual(len(states(machine)), 40)
        told = needless(machine)
        for number in numbers_of(machine):
            tree = needing(machine, number)
            self.assertEqual(tree is None, number in told)
            self.assertIs(shows_needing(machine, number, tree), tree is not None)
        self.assertIs(together(machine, never_used(machine)), True)

    def test_many_rows(self):
        """Machines with 24 instructions and 12 conversions, and six operators."""
        seen = 0
        for seed in range(31, 40):
            machine = machine_for(chance(seed), (0, 0, 1, 1, 2, 2), 3 + seed % 2, 24, 12, 5)
            if is_small(machine):
                told = needless(machine)
                unused = never_used(machine)
                self.assertLessEqual(set(unused), set(told))
                self.assertIs(together(machine, unused), True)
                self.assertIs(together(machine, tuple(numbers_of(machine))), not any(
                    [state[0] is not None for state in states(machine)]
                ))
                for number in numbers_of(machine):
                    tree = needing(machine, number)
                    self.assertIs(shows_needing(machine, number, tree), number not in told)
                seen += 1
        self.assertGreater(seen, 5)

    def test_great_trees(self):
        """Trees with 2**99 nodes and more."""
        tree = doubled(1, 100)
        self.assertEqual(nodes(NEAR[0], tree), 2**100 - 1)
        for number, expected in enumerate((False, True, True, False, True)):
            self.assertIs(shows_needing(NEAR, number, tree), expected)

    def test_greater_price(self):
        """What is needless is so at each greater price."""
        raised = 0
        for machine in small_machines(120, 6):
            for number in needless(machine):
                own = (machine[2] + machine[3])[number][-1]
                for price in (1, 2, 20):
                    dearer = priced(machine, number, max(own, price))
                    if price > own and is_small(dearer):
                        self.assertIn(number, needless(dearer))
                        raised += 1
        self.assertGreater(raised, 200)


class Limits(unittest.TestCase):
    def too_many(self, call, amount, limit):
        with self.assertRaises(TooMany) as caught:
            call()
        self.assertEqual((caught.exception.amount, caught.exception.limit), (amount, limit))

    def test_40_and_41_states(self):
        # Eight instructions and conversions, so that fewest has nothing to refuse ahead.
        both = ((0, 1, 1), 2, ((0, 0, (), 0), (1, 0, (), 0), (0, 1, (0,), 0), (1, 1, (1,), 1), (0, 2, (0,), 1),
                               (1, 2, (1,), 0)), ((0, 1, 20), (1, 0, 19)))
        for machine, extra in ((both, ()), (counters((4, 7), (1, 2)), (4,))):
            self.assertEqual(len(states(machine)), 40)
            for call in calls(machine)[:4 + (len(extra) == 0)]:
                call()
            more = ((*machine[0], 0),) + machine[1:]
            self.assertEqual(len(states(more)), 41)
            for call in calls(more)[:4 + (len(extra) == 0)]:
                self.too_many(call, 41, 40)
            self.assertIs(shows_needing(more, 0, LEAF), True)
        for call in calls(counters((4, 4, 7), (1, 2, 3)))[:4]:
            self.too_many(call, 200, 40)

    def test_states_that_cannot_be_told(self):
        for call in calls(GROWING)[:4] + calls(reduced(NEAR, (4,))):
            self.assertRaises(Endless, call)
        for call in calls(CROWD)[:4] + calls(counters((20, 20), (1, 2)))[:4]:
            self.too_many(call, 201, 200)
        # What shows that something is needed can be judged all the same.
        self.assertIs(shows_needing(GROWING, 0, LEAF), True)
        self.assertIs(shows_needing(CROWD, 1, LEAF), False)

    def test_8_and_9_to_choose_among(self):
        for many in (8, 9):
            for steps in (0, 2):
                rows = ((0, 0, (), 1),) * (many - steps)
                machine = (0,), 2, rows, ((0, 1, 0),) * steps
                if many == 8:
                    self.assertEqual(fewest(machine), (0,))
                else:
                    self.too_many(lambda: fewest(machine), 9, 8)
                self.assertEqual(needless(machine), tuple(range(many)))
        self.too_many(lambda: fewest(WIDE[:2] + (WIDE[2] * 6, WIDE[3] * 3)), 36, 8)

    def test_order(self):
        """What is wrong with the numbers comes ahead of the states, and so does fewest's own limit."""
        for machine in (GROWING[:2] + (GROWING[2] * 2, ()), CROWD, counters((4, 7), (1, 2), (0,))):
            self.too_many(lambda: fewest(machine), len(numbers_of(machine)), 8)
            many = len(numbers_of(machine))
            self.assertRaises(NoNumbers, together, machine, (many,))
            self.assertRaises(NoNumber, needing, machine, many)
            self.assertRaises(NoNumber, shows_needing, machine, many, LEAF)
        for call in (
            lambda: together((GROWING,), (99,)), lambda: needing(None, None), lambda: shows_needing([], -1, None),
            lambda: fewest(list(CROWD)), lambda: needless(()), lambda: never_used(GROWING[:3]),
        ):
            self.assertRaises(NoMachine, call)


class WrongInputs(unittest.TestCase):
    def test_machines(self):
        for machine in wrong_values() + spoiled(NEAR[:2] + (NEAR[2][:2],) + NEAR[3:]):
            for call in calls(machine) + [lambda: shows_needing(machine, 0, LEAF)]:
                self.assertRaises(NoMachine, call)

    def test_numbers_of_one(self):
        for wrong in wrong_values() + [None, 5, -1, (0,), "0", 0.0]:
            if not (isinstance(wrong, int) and wrong is not True and wrong is not False and 0 <= wrong <= 4):
                self.assertRaises(NoNumber, needing, NEAR, wrong)
                self.assertRaises(NoNumber, shows_needing, NEAR, wrong, NEAR_TREE)
                self.assertRaises(NoNumber, shows_needing, NEAR, wrong, None)
        for machine in (((0,), 1, (), ()), ((0, 2), 4, (), ())):
            self.assertRaises(NoNumber, needing, machine, 0)
            self.assertRaises(NoNumber, shows_needing, machine, 0, LEAF)

    def test_numbers_of_several(self):
        fine = (0, 2, 4)
        self.assertIs(together(NEAR, fine), False)
        wrong = wrong_values() + [
            None, 0, [], [3], (3, 3), (4, 3), (0, 1, 1), (3, 2), (5,), (-1,), (0, 5), (-1, 0), (True,), (False, 1),
            (0, True), (0, True, 2), (3.0,), ("3",), (None,), ((3,),), {3: True}, {}, "3", (3, None), deep(tuple, 3),
        ]
        for numbers in wrong + spoiled(fine):
            ascending = isinstance(numbers, tuple) and numbers in [
                kept for many in range(6) for kept in itertools.combinations(range(5), many)
            ] and all(not isinstance(number, (bool, float)) for number in numbers)
            if ascending:
                self.assertIn(together(NEAR, numbers), (True, False))
            else:
                self.assertRaises(NoNumbers, together, NEAR, numbers)
        for numbers in [kept for many in range(6) for kept in itertools.combinations(range(5), many)]:
            self.assertIs(together(NEAR, numbers), numbers in ((), (3,)))
        self.assertRaises(NoNumbers, together, ((0,), 1, (), ()), (0,))

    def test_things(self):
        tree = needing(NEAR, 4)
        for thing in wrong_values() + [None, (), (tree,), list(tree), [list(node) for node in tree], NoNumber(), tree[1:]]:
            self.assertIs(asked_twice(self, shows_needing, NEAR, 4, thing), False)
        for thing in spoiled(tree):
            self.assertIs(shows_needing(NEAR, 4, thing), thing == tree and repr(thing) == repr(tree))


if __name__ == "__main__":
    unittest.main()
