import itertools
import unittest

from codepick.chooser import state_tree, states
from codepick.classes import classes, parted, shows_parted
from codepick.contexts import is_context, put
from codepick.errors import Endless, NoMachine, NoStates, TooMany
from codepick.prices import prices, relative
from codepick.trees import nodes
from brute import Rows, all_trees, state_of, written
from samples import (NEAR, NEAR_TREE, SMALL, asked_twice, chance, counters, doubled, is_small, likeness, machine_for,
                     part_at, places, replaced, some_machine, spoiled, wrong_values)

LEAF = ((0,),)
GROWING = counters((None,), (1, (1,)))
CROWD = counters((None, None), (1, 2))
# Three leaves: with a goal price, with one in form 1 that operator 3 takes, and with one in form 2 that nothing takes.
LEAVES = ((0, 0, 0, 1), 3, ((0, 0, (), 2), (1, 1, (), 5), (2, 2, (), 1), (0, 3, (1,), 4), (0, 3, (0,), 1)), ())
# The state of the one leaf and that of the other differ by 2 at the goal, and by 1 behind operator 2.
UNLIKE = (
    (0, 0, 1), 2, ((0, 0, (), 0), (1, 0, (), 1), (0, 1, (), 2), (1, 1, (), 0), (0, 2, (1,), 0)), (),
)

# Operator 3 leads to the goal at once, operator 2 only with operator 3 behind it, and so over a greater rest.
NEARER = (
    (0, 0, 1, 1), 3,
    ((1, 1, (), 3), (2, 2, (2,), 1), (0, 3, (2,), 3), (2, 0, (), 3), (1, 1, (), 1), (2, 0, (), 1), (2, 1, (), 1)),
    ((0, 2, 1), (1, 2, 3)),
)
# Rests of these states differ by as much in many contexts, if it is left out how the base grows on the way.
GROWTHS = (
    (0, 0, 1, 1), 3,
    ((1, 0, (), 3), (0, 0, (), 3), (2, 0, (), 1), (1, 3, (1,), 0), (2, 3, (1,), 2), (2, 1, (), 0), (2, 1, (), 2),
     (0, 2, (0,), 1), (1, 2, (2,), 0)),
    ((1, 0, 2), (1, 0, 1)),
)


def small_machines(amount):
    found = [NEAR, SMALL, LEAVES, UNLIKE, NEARER, GROWTHS]
    for seed in range(amount):
        dice = chance(seed)
        arities = ((0, 1), (0, 0, 1), (0, 0, 2), (0, 1, 2), (0, 2))[seed % 5]
        machine = machine_for(dice, arities, 1 + seed // 5 % 4, dice.randint(3, 10), dice.randint(0, 4), 3)
        if seed % 6 == 0:
            machine = some_machine(dice)
        if is_small(machine, 12):
            found.append(machine)
    return found


class Rests:
    """The pairs of goal prices of two states in all contexts with a few steps over small siblings."""

    def __init__(self, machine, steps, most):
        self.rows = Rows(machine)
        self.many = steps
        siblings = sorted({state_of(self.rows.of(nested))[0] for nested in all_trees(machine[0], most)}, key=str)
        self.steps = []
        for operator, arity in enumerate(machine[0]):
            for place in range(arity):
                self.steps += [(operator, place, row) for row in itertools.product(siblings, repeat=arity - 1)]

    def over(self, step, row):
        operator, place, siblings = step
        return self.rows.over(operator, [*siblings[:place], row, *siblings[place:]])

    def told(self, state, other):
        """Whether there is a context for "one", and all differences of the rests."""
        reached = {(state, other): True}
        fresh = list(reached)
        for level in range(self.many):
            rows = {tuple([self.over(step, row) for row in pair]): True for pair in fresh for step in self.steps}
            fresh = [pair for pair in map(self.lowered, rows) if pair not in reached]
            reached.update(dict.fromkeys(fresh, True))
        ones = [pair for pair in reached if (pair[0][0] is None) != (pair[1][0] is None)]
        return bool(ones), {there[0] - here[0] for here, there in reached if None not in (here[0], there[0])}

    def lowered(self, pair):
        """The pair of rows, both less what both have at least."""
        least = min([price for row in pair for price in row if price is not None], default=0)
        return tuple([tuple([None if price is None else price - least for price in row]) for row in pair])


def rests(machine, state, other, context):
    """The rests of two states of trees in a context, found by the prices of trees."""
    found = []
    for tree in (state_tree(machine, state), state_tree(machine, other)):
        goal = prices(machine, put(machine[0], context, tree))[0]
        found.append(None if goal is None else goal - relative(prices(machine, tree))[1])
    return found


def parts(machine, state, other, answer):
    """Whether an answer that is not None is as the document says, found by the prices of trees."""
    word, *contexts = answer
    found = [rests(machine, state, other, context) for context in contexts]
    if word == "one":
        return len(found) == 1 and (found[0][0] is None) != (found[0][1] is None)
    differences = [there - here for here, there in found]
    return word == "two" and len(found) == 2 and differences[0] != differences[1]


def calls(machine, state, other):
    return [
        lambda: parted(machine, state, other), lambda: shows_parted(machine, state, other, None),
        lambda: shows_parted(machine, state, other, ("one", ())),
    ]


class Examples(unittest.TestCase):
    def test_short_session(self):
        self.assertEqual(asked_twice(self, classes, NEAR), (((0, 1), (0, 3)), ((1, 0),)))
        self.assertIsNone(parted(NEAR, (0, 1), (0, 3)))
        for one, other in (((0, 1), (1, 0)), ((1, 0), (0, 1)), ((0, 3), (1, 0)), ((1, 0), (0, 3))):
            answer = asked_twice(self, parted, NEAR, one, other)
            self.assertEqual(answer[0], "two")
            self.assertIs(parts(NEAR, one, other, answer), True)

    def test_equal_states(self):
        for machine in (NEAR, SMALL, LEAVES, UNLIKE):
            for state in states(machine):
                self.assertIsNone(parted(machine, state, state))
                self.assertIs(shows_parted(machine, state, state, None), True)
                for thing in (("one", ()), ("two", (), ()), ("two", (), ((1, 0, (LEAF,)),))):
                    self.assertIs(shows_parted(machine, state, state, thing), False)

    def test_no_context_leads_to_a_goal_price(self):
        self.assertEqual(states(LEAVES), ((0, None, None), (None, 0, None), (None, None, 0), (None, None, None)))
        self.assertEqual(
            asked_twice(self, classes, LEAVES),
            (((0, None, None),), ((None, 0, None),), ((None, None, 0), (None, None, None))),
        )
        self.assertIsNone(parted(LEAVES, (None, None, 0), (None, None, None)))
        self.assertIs(shows_parted(LEAVES, (None, None, None), (None, None, 0), None), True)
        step = ((3, 0, ()),)
        self.assertEqual(parted(LEAVES, (None, 0, None), (None, None, 0)), ("one", step))
        self.assertEqual(parted(LEAVES, (None, None, None), (0, None, None))[0], "one")
        for contexts in ((), ((), ()), (step, step), ((), step)):
            self.assertIs(shows_parted(LEAVES, (0, None, None), (None, None, None), ("one", *contexts)), False)
        # The empty context parts by itself.
        self.assertIs(shows_parted(LEAVES, (0, None, None), (None, 0, None), ("one", ())), True)
        self.assertIs(shows_parted(LEAVES, (None, 0, None), (None, None, 0), ("one", ())), False)
        # Rests that are no prices have no difference.
        for contexts in (((), step), (step, ()), ((), ()), (step, step)):
            self.assertIs(shows_parted(LEAVES, (None, 0, None), (None, None, 0), ("two", *contexts)), False)

    def test_without_goal(self):
        for forms in (1, 2, 3, 4):
            machine = (0, 1), forms, (), ()
            nothing = (None,) * forms
            self.assertEqual(classes(machine), ((nothing,),))
            self.assertIsNone(parted(machine, nothing, nothing))
        machine = (0, 0, 2), 2, ((1, 0, (), 3),), ()
        self.assertEqual(classes(machine), (((None, 0), (None, None)),))
        self.assertIsNone(parted(machine, (None, 0), (None, None)))

    def test_without_leaves(self):
        machine = (1, 2), 2, ((0, 0, (0,), 1), (0, 1, (0, 1), 1)), ()
        self.assertEqual(states(machine), ())
        self.assertEqual(classes(machine), ())
        self.assertRaises(NoStates, parted, machine, (0, 0), (0, 0))

    def test_differences(self):
        self.assertEqual(classes(UNLIKE), (((0, 1),), ((0, None),), ((2, 0),), ((None, None),)))

    def test_least_rests(self):
        self.assertEqual(classes(NEARER), (((0, None, 1),), ((None, 0, 0), (None, None, 0))))
        self.assertIsNone(parted(NEARER, (None, 0, 0), (None, None, 0)))
        for one, other in itertools.permutations(states(GROWTHS), 2):
            answer = parted(GROWTHS, one, other)
            self.assertIs(shows_parted(GROWTHS, one, other, answer), True)
            self.assertIs(answer is None or parts(GROWTHS, one, other, answer), True)

    def test_different_states_alike(self):
        """Form 1 is cheap or dear, but conversions make it as good as form 0."""
        machine = ((0, 0, 1), 3, ((0, 0, (), 1), (1, 0, (), 2), (0, 1, (), 1), (2, 1, (), 5), (0, 2, (0,), 1)), ())
        self.assertEqual(states(machine), ((0, 1, None), (0, None, 4), (0, None, None)))
        self.assertEqual(classes(machine), (states(machine),))
        for one, other in itertools.product(states(machine), repeat=2):
            self.assertIsNone(parted(machine, one, other))
            self.assertIs(shows_parted(machine, one, other, None), True)

    def test_by_a_difference_of_bases(self):
        """States that differ, but of which the rests always differ by 3."""
        machine = ((0, 0, 1), 3, ((0, 0, (), 0), (1, 0, (), 9), (0, 1, (), 3), (1, 1, (), 12), (2, 1, (), 0),
                                 (0, 2, (0,), 1), (1, 2, (1,), 1), (0, 2, (1,), 0)), ())
        self.assertIn(((0, 9, None), (3, 12, 0)), classes(machine))
        self.assertIsNone(parted(machine, (0, 9, None), (3, 12, 0)))

    def test_one_ahead_of_two(self):
        """The empty context tells them by different rests as well, but one has none behind operator 2."""
        machine = ((0, 0, 1, 1), 2, ((0, 0, (), 0), (1, 0, (), 1), (0, 1, (), 0), (0, 2, (1,), 0), (0, 3, (0,), 0)), ())
        one, other = (0, 1), (0, None)
        self.assertEqual(parted(machine, one, other), ("one", ((2, 0, ()),)))
        # The other word would be right only with two contexts that part them.
        for contexts in (((), ((3, 0, ()),)), ((), ((2, 0, ()),))):
            self.assertIs(shows_parted(machine, one, other, ("two", *contexts)), False)
        wide = machine[:2] + (machine[2] + ((0, 3, (1,), 0), (1, 1, (), 20)), ()) + machine[4:]
        self.assertEqual(parted(wide, (0, 1), (0, 20))[0], "two")

    def test_two_where_there_is_one(self):
        machine = ((0, 0, 1, 1), 3, ((0, 0, (), 0), (1, 0, (), 1), (2, 0, (), 0), (0, 1, (), 0), (1, 1, (), 5),
                                    (0, 2, (1,), 0), (0, 3, (2,), 0)), ())
        one, other = (0, 1, 0), (0, 5, None)
        self.assertEqual(parted(machine, one, other), ("one", ((3, 0, ()),)))
        two = ("two", (), ((2, 0, ()),))
        self.assertIs(shows_parted(machine, one, other, two), True)
        self.assertIs(shows_parted(machine, other, one, two), True)
        self.assertIs(shows_parted(machine, one, other, None), False)

    def test_by_name(self):
        self.assertEqual(classes(machine=SMALL), (((0,),),))
        self.assertIsNone(parted(other=(0,), state=(0,), machine=SMALL))
        self.assertIs(shows_parted(thing=None, other=(0,), state=(0,), machine=SMALL), True)


class AgainstAllContexts(unittest.TestCase):
    def test_classes_and_parted(self):
        seen = {None: 0, "one": 0, "two": 0}
        for machine in small_machines(240):
            found = asked_twice(self, classes, machine)
            everything = states(machine)
            self.assertEqual(sorted(sum(found, ()), key=everything.index), list(everything))
            self.assertEqual([row[0] for row in found], sorted([row[0] for row in found], key=everything.index))
            for row in found:
                self.assertEqual(list(row), sorted(row, key=everything.index))
            brute = Rests(machine, 4, 5)
            for one, other in itertools.combinations(everything, 2):
                answer = parted(machine, one, other)
                seen[answer and answer[0]] += 1
                is_one, differences = brute.told(one, other)
                word = "one" if is_one else "two" if len(differences) > 1 else None
                self.assertEqual(answer and answer[0], word, (machine, one, other))
                self.assertEqual(answer is None, any([one in row and other in row for row in found]))
                self.check(machine, one, other, answer)
        self.assertGreater(min(seen.values()), 100)

    def check(self, machine, one, other, answer):
        turned = parted(machine, other, one)
        self.assertEqual(turned and turned[0], answer and answer[0])
        for word in (answer, turned):
            if word is not None:
                self.assertIs(all([is_context(machine[0], context) for context in word[1:]]), True)
                self.assertIs(parts(machine, one, other, word), True)
            self.assertIs(shows_parted(machine, one, other, word), True)
            self.assertIs(shows_parted(machine, other, one, word), True)
        if answer is not None:
            self.assertIs(shows_parted(machine, one, other, None), False)

    def test_shows_parted(self):
        """Every context with up to two steps is tried for one, and every two of them for two."""
        seen = {True: 0, False: 0}
        for machine in small_machines(60)[:24]:
            siblings = [written(nested) for nested in all_trees(machine[0], 1)]
            steps = []
            for operator, arity in enumerate(machine[0]):
                for place in range(arity):
                    steps += [(operator, place, row) for row in itertools.product(siblings, repeat=arity - 1)]
            contexts = [context for many in range(3) for context in itertools.product(steps, repeat=many)][:12]
            everything = states(machine)
            for one, other in list(itertools.product(everything, repeat=2))[:10]:
                pairs = [rests(machine, one, other, context) for context in contexts]
                for context, pair in zip(contexts, pairs):
                    expected = (pair[0] is None) != (pair[1] is None)
                    self.assertIs(shows_parted(machine, one, other, ("one", context)), expected)
                    seen[expected] += 1
                for first, second in itertools.product(range(len(contexts)), repeat=2):
                    told = pairs[first] + pairs[second]
                    expected = None not in told and told[1] - told[0] != told[3] - told[2]
                    answer = "two", contexts[first], contexts[second]
                    self.assertIs(shows_parted(machine, one, other, answer), expected)
                    seen[expected] += 1
        self.assertGreater(min(seen.values()), 300)


class Many(unittest.TestCase):
    def test_many_states(self):
        """Contexts that part states are far too many to be gone through."""
        machine = counters((4, 11), (1, 2, (1,), (2,)))
        everything = states(machine)
        self.assertEqual(len(everything), 60)
        self.assertEqual(classes(machine), tuple([(state,) for state in everything]))
        for one, other in list(itertools.combinations(everything, 2))[::90]:
            answer = parted(machine, one, other)
            self.assertIs(parts(machine, one, other, answer), True)
            self.assertIs(shows_parted(machine, one, other, answer), True)
        # Without operators that read the counters nothing is told by them, and with one of them only the one.
        self.assertEqual(classes(counters((4, 11), (1, 2))), (everything,))
        rows = tuple([everything[12 * at:12 * at + 12] for at in range(5)])
        self.assertEqual(classes(counters((4, 11), (1, 2, (1,)))), rows)

    def test_many_moves(self):
        """Two operators with two arguments, over many states."""
        seen = 0
        for seed in (17, 44, 45):
            machine = machine_for(chance(seed), (0, 0, 0, 1, 2, 2), 3 + seed % 2, 24, 12, 6)
            found = classes(machine)
            firsts = [row[0] for row in found]
            for one, other in list(itertools.combinations(firsts, 2))[::150]:
                answer = parted(machine, one, other)
                self.assertIs(parts(machine, one, other, answer), True)
                self.assertIs(shows_parted(machine, one, other, answer), True)
            for row in found[:3]:
                self.assertIsNone(parted(machine, row[0], row[-1]))
            seen += len(states(machine))
        self.assertGreater(seen, 80)

    def test_long_contexts(self):
        """The two counters are told apart only where they come to their caps, 15 steps later."""
        machine = counters((18,), (1, None, (1,)))
        steps = machine[2]
        capped = machine[:2] + (tuple([row for row in steps if row[1] != 3 or row[0] != 1]), machine[3])
        one, other = (0, 2), (0, 3)
        answer = parted(capped, one, other)
        self.assertIs(parts(capped, one, other, answer), True)
        self.assertIs(shows_parted(capped, one, other, answer), True)

    def test_great_siblings(self):
        great = doubled(1, 100)
        contexts = ((1, 0, (great,)),), ((1, 1, (great,)), (1, 0, (great,)))
        self.assertGreater(nodes(NEAR[0], put(NEAR[0], contexts[1], LEAF)), 2**100)
        for one, other in itertools.permutations(states(NEAR), 2):
            told = [rests(NEAR, one, other, context) for context in contexts]
            expected = told[0][1] - told[0][0] != told[1][1] - told[1][0]
            self.assertIs(shows_parted(NEAR, one, other, ("two", *contexts)), expected)


class Limits(unittest.TestCase):
    def too_many(self, call, amount, limit):
        with self.assertRaises(TooMany) as caught:
            call()
        self.assertEqual((caught.exception.amount, caught.exception.limit), (amount, limit))

    def test_60_and_61_states(self):
        machine = counters((4, 11), (1, 2))
        nothing = (None, None, None)
        self.assertEqual(len(states(machine)), 60)
        for call in calls(machine, (0, 0, 0), (0, 4, 11)) + [lambda: classes(machine)]:
            call()
        more = counters((4, 11), (1, 2), (0,))
        self.assertEqual(len(states(more)), 61)
        for state in ((0, 0, 0), nothing, None, True):
            for call in calls(more, state, nothing) + calls(more, nothing, state) + [lambda: classes(more)]:
                self.too_many(call, 61, 60)
        for call in calls(counters((4, 4, 7), (1, 2, 3)), None, None):
            self.too_many(call, 200, 60)

    def test_two_forms(self):
        """With two forms, up to 6 * P + 4 states are told."""
        both = ((0, 1, 1), 2, ((0, 0, (), 0), (1, 0, (), 0), (0, 1, (0,), 0), (1, 1, (1,), 20), (0, 2, (0,), 20),
                               (1, 2, (1,), 0)), ((0, 1, 20), (1, 0, 20)))
        self.assertLess(len(states(both)), 60)
        classes(both)

    def test_states_that_cannot_be_told(self):
        for call in calls(GROWING, (0, 0), (0, 1)) + calls(GROWING, None, True) + [lambda: classes(GROWING)]:
            self.assertRaises(Endless, call)
        for call in calls(CROWD, (0, 0, 0), (0, 1, 0)) + calls(CROWD, (), ()) + [lambda: classes(CROWD)]:
            self.too_many(call, 201, 200)


class WrongInputs(unittest.TestCase):
    def test_machines(self):
        for wrong in wrong_values() + [None, ()] + spoiled(SMALL):
            for call in calls(wrong, (0,), (0,)) + calls(wrong, None, True) + [lambda: classes(wrong)]:
                self.assertRaises(NoMachine, call)

    def test_states(self):
        fine = (0, 3)
        wrong_ones = wrong_values() + [
            None, 0, (), (0,), [0, 3], (0, 2), (0, 0), (3, 0), (0, 3, 0), (False, 3), (0, True), (True, 0), (1, False),
            (0, "3"), (0, 3.0), (None, 0), (0, None), (None, None), (fine,), {0: 3}, {fine: fine}, NoStates(), (0, 10**30),
        ]
        for wrong in wrong_ones:
            for call in calls(NEAR, wrong, fine) + calls(NEAR, fine, wrong) + calls(NEAR, wrong, wrong):
                self.assertRaises(NoStates, call)
        for wrong in spoiled(fine):
            if repr(wrong) not in [repr(state) for state in states(NEAR)]:
                for call in calls(NEAR, wrong, fine) + calls(NEAR, fine, wrong):
                    self.assertRaises(NoStates, call)

    def test_things(self):
        one, other = (0, 1), (1, 0)
        answer = parted(NEAR, one, other)
        wrong_ones = wrong_values() + [
            (), False, 0, "one", "two", ("one",), ("two",), ("one", None), ("two", None), list(answer), answer[::-1],
            answer[:2], answer + answer[1:2], answer + ((),), ("two", answer[1], answer[1]), ("one", *answer[1:]),
            ("one", answer[1]), ("one", answer[2]), ("two", list(answer[1]), answer[2]), ("two", answer[1:]),
            ("three", *answer[1:]), ("Two", *answer[1:]), (None, *answer[1:]), (None,), (2, *answer[1:]), (answer,),
            {"two": answer[1:]}, NEAR_TREE, LEAF, ("two", LEAF, LEAF), NoStates(),
        ]
        for wrong in wrong_ones:
            self.assertIs(asked_twice(self, shows_parted, NEAR, one, other, wrong), False)
        for thing in spoiled(answer):
            right = (
                isinstance(thing, tuple) and len(thing) == 3 and isinstance(thing[0], str) and thing[0] == "two"
                and all([is_context(NEAR[0], context) for context in thing[1:]]) and parts(NEAR, one, other, thing)
            )
            self.assertIs(shows_parted(NEAR, one, other, thing), right)
        for place in places(answer):
            wrong = replaced(answer, place, likeness(part_at(answer, place)))
            self.assertIs(shows_parted(NEAR, one, other, wrong), False)


if __name__ == "__main__":
    unittest.main()
