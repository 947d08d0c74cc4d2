import unittest

from codepick.alike import compared, gap, shows_gap
from codepick.chooser import states
from codepick.errors import Endless, TooMany
from codepick.prices import prices, relative
from codepick.trees import is_tree
from brute import Rows, all_parts, all_trees, rows_by_size, state_of, written
from samples import (NEAR, NEAR_TREE, SMALL, asked_twice, chain, chance, counters, deep, doubled, likeness,
                     machine_for, part_at, places, replaced, spoiled, varied, wrong_values)

LEAF = ((0,),)
# Each operator over the next one costs 2 in the one machine and 3 in the other.
SLOPE = (((0, 1), 1, ((0, 0, (), 5), (0, 1, (0,), 2)), ()), ((0, 1), 1, ((0, 0, (), 4), (0, 1, (0,), 3)), ()))
# One operator is dearer in the one machine, the other one in the other.
SWING = (
    ((0, 1, 1), 1, ((0, 0, (), 5), (0, 1, (0,), 2), (0, 2, (0,), 3)), ()),
    ((0, 1, 1), 1, ((0, 0, (), 5), (0, 1, (0,), 3), (0, 2, (0,), 2)), ()),
)
# What is gained by operator 1 is gained twice by operator 2, over two parts.
FORK = (
    ((0, 1, 2), 2, ((0, 0, (), 1), (1, 0, (), 3), (0, 1, (0,), 1), (1, 1, (0,), 2), (0, 2, (0, 1), 1)), ()),
    ((0, 1, 2), 2, ((0, 0, (), 1), (1, 0, (), 3), (0, 1, (0,), 2), (1, 1, (0,), 3), (0, 2, (0, 1), 1)), ()),
)


def some_pairs(amount):
    """Pairs of machines for which gap is told."""
    found = []
    for seed in range(amount):
        dice = chance(seed)
        arities = ((0, 1), (0, 1, 1), (0, 0, 2), (0, 1, 2))[seed % 4]
        one = machine_for(dice, arities, 1 + seed // 4 % 3, dice.randint(4, 10), dice.randint(0, 4), 3, seed % 3 == 0)
        other = varied(dice, one)
        if seed % 2:
            other = machine_for(dice, arities, 1 + dice.randrange(3), dice.randint(4, 10), dice.randint(0, 4), 3)
        try:
            gap(one, other)
        except (Endless, TooMany):
            continue
        found.append((one, other))
    return found


class Brute:
    """The pairs of states of all trees with a few nodes, and which of them matter to both as those trees show."""

    def __init__(self, one, other, most):
        self.rows = Rows(one), Rows(other)
        self.trees = all_trees(one[0], most)
        self.matters = {}
        for nested in self.trees:
            if self.difference(nested, 0) is not None:
                for path, part in all_parts(nested):
                    self.matters[self.pair(part)] = True

    def told(self, nested):
        return [state_of(rows.of(nested)) for rows in self.rows]

    def pair(self, nested):
        return tuple([state for state, base in self.told(nested)])

    def difference(self, nested, form=None):
        """By how much the base, or the price in a form, is greater in other."""
        amounts = [base for state, base in self.told(nested)]
        if form is not None:
            amounts = [rows.of(nested)[form] for rows in self.rows]
        return None if None in amounts else amounts[1] - amounts[0]

    def shows(self, nested, path, part):
        return bool(
            path and self.pair(nested) == self.pair(part) and self.pair(part) in self.matters
            and self.difference(nested) > self.difference(part)
        )


class Gap(unittest.TestCase):
    def both(self, one, other, answer):
        """Asks for the gap in both directions."""
        self.assertEqual(repr(asked_twice(self, gap, one, other)), repr(answer))
        if answer is not None:
            answer = tuple([None if end is None else -end for end in answer[::-1]])
        self.assertEqual(repr(gap(other, one)), repr(answer))

    def test_a_machine_and_itself(self):
        for machine in (NEAR, SMALL, counters((19, 2), (1, 2)), ((0, 2), 1, ((0, 0, (), 1), (0, 1, (0, 0), 20)), ())):
            self.both(machine, machine, (0, 0))

    def test_by_name(self):
        self.assertEqual(gap(one=SLOPE[0], other=SLOPE[1]), (-1, None))
        self.assertEqual(gap(other=SLOPE[0], one=SLOPE[1]), (None, 1))
        self.assertIs(shows_gap(one=SLOPE[0], other=SLOPE[1], thing=(chain(1, 2), (0,))), True)
        self.assertIs(shows_gap(thing=(chain(1, 2), (0,)), one=SLOPE[1], other=SLOPE[0]), False)

    def test_no_end_on_neither_one_and_both_sides(self):
        self.both(*SLOPE, (-1, None))
        self.both(*SWING, (None, None))
        self.both(((0,), 1, ((0, 0, (), 20),), ()), ((0,), 1, ((0, 0, (), 3),), ()), (-17, -17))
        self.both(((0, 0), 1, ((0, 0, (), 1), (0, 1, (), 9)), ()), ((0, 0), 1, ((0, 0, (), 7), (0, 1, (), 3)), ()),
                  (-6, 6))
        self.both(*FORK, (0, None))
        # With the short session's machine the leaf's price is paid in few trees.
        self.both(NEAR, NEAR[:2] + (NEAR[2][:3] + NEAR[2][4:],) + NEAR[3:], (0, 0))
        dear = NEAR[:2] + (((0, 0, (), 2),) + NEAR[2][1:],) + NEAR[3:]
        self.assertEqual(gap(NEAR, dear)[0], 0)

    def test_no_tree_with_a_goal_price_in_both(self):
        self.both(((0, 0), 1, ((0, 0, (), 1),), ()), ((0, 0), 1, ((0, 1, (), 1),), ()), None)
        self.both(((0, 1), 1, (), ()), SLOPE[0], None)
        self.both(((1,), 2, (), ()), ((1,), 1, ((0, 0, (0,), 1),), ()), None)
        # Trees with an even number of nodes have a goal price in the one machine, the others in the other.
        even = ((0, 1), 2, ((1, 0, (), 1), (0, 1, (1,), 1), (1, 1, (0,), 1)), ())
        odd = ((0, 1), 2, ((0, 0, (), 1), (0, 1, (1,), 1), (1, 1, (0,), 1)), ())
        self.both(even, odd, None)
        self.both(even, even, (0, 0))
        tree, path = chain(1, 3), (0, 0)
        self.assertIs(shows_gap(even, odd, (tree, path)), False)

    def test_trees_with_a_goal_price_in_one_alone_do_not_count(self):
        one = ((0, 1), 2, ((0, 0, (), 1), (1, 1, (0,), 1), (0, 1, (1,), 1)), ())
        other = ((0, 1), 1, ((0, 0, (), 1), (0, 1, (0,), 2)), ())
        self.both(one, other, (0, None))
        # In the one machine only the leaf has a goal price.
        self.both(one[:2] + (one[2][:2],) + one[3:], other, (0, 0))
        self.assertIs(shows_gap(one[:2] + (one[2][:2],) + one[3:], other, (chain(1, 4), (0, 0))), False)
        self.assertIs(shows_gap(one, other, (chain(1, 4), (0, 0))), True)
        self.assertIs(shows_gap(one, other, (chain(1, 4), (0,))), False)

    def test_what_gains_must_lead_to_goals_in_both(self):
        """Operator 2 gains without end in form 1, but leads to the goal in none, one or both machines."""
        rows = ((0, 0, (), 1), (1, 1, (), 1), (1, 2, (1,), 1))
        one = ((0, 0, 1, 1), 2, rows, ())
        other = ((0, 0, 1, 1), 2, rows[:2] + ((1, 2, (1,), 2),), ())
        up = ((0, 3, (1,), 0),)
        thing = (((1,), (2, 0)), (0,))
        self.both(one, other, (0, 0))
        self.both(one[:2] + (rows + up,) + one[3:], other, (0, 0))
        self.both(one, other[:2] + (other[2] + up,) + other[3:], (0, 0))
        self.both(one[:2] + (rows + up,) + one[3:], other[:2] + (other[2] + up,) + other[3:], (0, None))
        self.assertIs(shows_gap(one, other, thing), False)
        self.assertIs(shows_gap(one[:2] + (rows + up,) + one[3:], other, thing), False)
        self.assertIs(shows_gap(one, other[:2] + (other[2] + up,) + other[3:], thing), False)
        self.assertIs(
            shows_gap(one[:2] + (rows + up,) + one[3:], other[:2] + (other[2] + up,) + other[3:], thing), True
        )

    def test_a_long_context(self):
        """Operator 2 costs more in form 3, from which operator 1 leads to the goal through all other forms."""
        rows = ((3, 0, (), 0), (2, 1, (3,), 1), (1, 1, (2,), 1), (0, 1, (1,), 1))
        one = ((0, 1, 1), 4, rows + ((3, 2, (3,), 1),), ())
        other = ((0, 1, 1), 4, rows + ((3, 2, (3,), 2),), ())
        self.both(one, other, (0, None))
        self.assertIs(shows_gap(one, other, (((0,), (2, 0)), (0,))), True)
        self.both(one, other[:2] + (rows[:1] + ((2, 1, (3,), 5),) + rows[2:] + ((3, 2, (3,), 1),),) + other[3:], (4, 4))

    def test_ends_that_high_trees_alone_have(self):
        """The prices are counted up to 20 in form 1, and read by operator 2."""
        one = counters((0,), (1, (1,)))
        self.both(one, counters((20,), (1, (1,))), (0, None))
        # A machine that reads once only: operator 2 leads from form 1 to the goal, and nothing leads on from there.
        rows = ((1, 0, (), 0), (2, 0, (), 0), (1, 1, (1,), 0), (2, 1, (2,), 1), (0, 2, (2,), 0))
        for dear in range(0, 21, 4):
            other = ((0, 1, 1), 3, rows, ((1, 2, dear),))
            once = ((0, 1, 1), 3, rows[:3] + ((2, 1, (2,), 0), (0, 2, (2,), 0)), ((1, 2, dear),))
            self.both(once, other, (0, dear))

    def test_a_gain_that_is_taken_back_each_time(self):
        """Operator 1 leads around three forms, and each way around comes to the same price in both machines."""
        found = []
        for costs in ((3, 0, 1), (1, 0, 3), (1, 0, 4)):
            around = tuple([(after, 1, (before,), price) for before, after, price in zip((1, 2, 3), (2, 3, 1), costs)])
            leave = tuple([(0, 2, (form,), 0) for form in (1, 2, 3)])
            found.append(((0, 1, 1), 4, ((1, 0, (), 0),) + around + leave, ()))
        one, other, dearer = found
        self.both(one, other, (-2, 0))
        self.both(one, dearer, (-2, None))
        self.both(other, dearer, (0, None))
        self.assertIs(shows_gap(one, other, (chain(1, 4), (0, 0, 0))), False)
        self.assertIs(shows_gap(one, dearer, (chain(1, 4), (0, 0, 0))), True)

    def test_differences_add_up_over_two_arguments(self):
        one = ((0, 2), 2, ((1, 0, (), 3), (0, 1, (1, 1), 1)), ())
        other = ((0, 2), 2, ((1, 0, (), 8), (0, 1, (1, 1), 0)), ())
        self.both(one, other, (9, 9))
        one = ((0, 0, 2), 2, ((1, 0, (), 3), (1, 1, (), 0), (0, 2, (1, 1), 1)), ())
        other = ((0, 0, 2), 2, ((1, 0, (), 8), (1, 1, (), 10), (0, 2, (1, 1), 0)), ())
        self.both(one, other, (9, 19))

    def test_some_pairs_against_trees_with_a_few_nodes(self):
        reached = [0, 0]
        for one, other in some_pairs(300):
            answer = gap(one, other)
            values = [there[0] - here[0] for rows in rows_by_size(one[0], (one, other), 9) for here, there in rows
                      if here[0] is not None and there[0] is not None]
            if not values:
                self.assertIsNone(answer)
                continue
            least, greatest = answer
            for end, found in ((least, min(values)), (greatest, max(values))):
                self.assertTrue(end is None or isinstance(end, int))
                if end is not None:
                    reached[end == found] += 1
            self.assertTrue(least is None or least <= min(values))
            self.assertTrue(greatest is None or greatest >= max(values))
            self.assertEqual(gap(other, one), tuple([None if end is None else -end for end in (greatest, least)]))
        self.assertEqual(reached[False], 0)
        self.assertGreater(reached[True], 150)

    def test_no_end_only_where_a_tree_shows_it(self):
        """All trees with a few nodes and all paths are gone through."""
        ends = seen = 0
        for one, other in some_pairs(160):
            answer = gap(one, other)
            brute = Brute(one, other, 6)
            shown = False
            for nested in brute.trees:
                for path, part in all_parts(nested):
                    right = brute.shows(nested, path, part)
                    self.assertIs(shows_gap(one, other, (written(nested), path)), right)
                    shown = shown or right
                    seen += right
            if answer is not None and answer[1] is None:
                ends += 1
                self.assertTrue(shown)
            else:
                self.assertFalse(shown)
        self.assertGreater(ends, 15)
        self.assertGreater(seen, 200)

    def test_gaps_within_the_sums_of_gaps(self):
        seen = 0
        for seed in range(300):
            dice = chance(seed)
            arities = ((0, 1), (0, 0, 2), (0, 1, 2))[seed % 3]
            one = machine_for(dice, arities, 1 + seed % 2, 9, 3, 3, seed % 5 == 0)
            machines = [one, varied(dice, one), varied(dice, varied(dice, one))]
            try:
                if any([compared(one, other)[0] == "only" for other in machines]):
                    continue
                gaps = [gap(machines[0], machines[1]), gap(machines[1], machines[2]), gap(machines[0], machines[2])]
            except (Endless, TooMany):
                continue
            if None in gaps:
                self.assertEqual(gaps, [None] * 3)
                continue
            if gaps[0][0] is not None and gaps[1][0] is not None:
                self.assertIsNotNone(gaps[2][0])
                self.assertLessEqual(gaps[0][0] + gaps[1][0], gaps[2][0])
                seen += gaps[2][0] != 0
            if gaps[0][1] is not None and gaps[1][1] is not None:
                self.assertIsNotNone(gaps[2][1])
                self.assertGreaterEqual(gaps[0][1] + gaps[1][1], gaps[2][1])
                seen += gaps[2][1] != 0
        self.assertGreater(seen, 20)

    def test_a_machine_without_some_instructions_is_nowhere_cheaper(self):
        seen = 0
        for seed in range(150):
            dice = chance(seed)
            one = machine_for(dice, (0, 1, 2), 1 + seed % 3, 10, 4, 3)
            fewer = one[:2] + (tuple([row for row in one[2] if dice.random() < 0.8]),) + one[3:]
            try:
                answer = gap(one, fewer)
            except (Endless, TooMany):
                continue
            if answer is not None:
                self.assertIsNotNone(answer[0])
                self.assertGreaterEqual(answer[0], 0)
                seen += answer != (0, 0)
        self.assertGreater(seen, 15)

    def test_alike_machines_have_no_gap(self):
        seen = 0
        for one, other in some_pairs(200):
            if compared(one, other) == ("alike",):
                self.assertIn(gap(one, other), (None, (0, 0)))
                seen += 1
            elif compared(one, other)[0] == "unlike":
                self.assertNotIn(gap(one, other), (None, (0, 0)))
        self.assertGreater(seen, 15)


class ShowsGap(unittest.TestCase):
    def test_right_ones(self):
        for length in range(2, 8):
            for depth in range(1, length):
                thing = (chain(1, length), (0,) * depth)
                self.assertIs(asked_twice(self, shows_gap, *SLOPE, thing), True)
                self.assertIs(shows_gap(*SLOPE[::-1], thing), False)
        self.assertIs(shows_gap(*SWING, (((0,), (1, 0)), (0,))), True)
        self.assertIs(shows_gap(*SWING, (((0,), (2, 0)), (0,))), False)
        self.assertIs(shows_gap(*SWING, (((0,), (1, 0), (2, 1)), (0, 0))), False)
        self.assertIs(shows_gap(*SWING, (((0,), (1, 0), (2, 1)), (0,))), False)
        self.assertIs(shows_gap(*SWING, (((0,), (2, 0), (1, 1)), (0,))), True)
        self.assertIs(shows_gap(*SWING[::-1], (((0,), (2, 0)), (0,))), True)

    def test_the_path_is_not_empty(self):
        self.assertIs(shows_gap(*SLOPE, (chain(1, 3), ())), False)
        self.assertIs(shows_gap(*SLOPE, (LEAF, ())), False)

    def test_the_places_of_arguments(self):
        # Leaves have another state than what operator 1 makes, and that has another one than what operator 2 makes.
        self.assertIs(shows_gap(*FORK, (chain(1, 2), (0,))), False)
        self.assertIs(shows_gap(*FORK, (chain(1, 3), (0,))), True)
        self.assertIs(shows_gap(*FORK, (chain(1, 3), (0, 0))), False)
        tree = ((0,), (1, 0), (2, 1, 1), (2, 2, 1))
        self.assertIs(shows_gap(*FORK, (tree, (0,))), True)
        self.assertIs(shows_gap(*FORK, (tree, (1,))), False)
        self.assertIs(shows_gap(*FORK, (tree, (0, 0))), False)
        grow = [((0, 0, 2), 1, ((0, 0, (), 0), (0, 1, (), dear), (0, 2, (0, 0), 0)), ()) for dear in (1, 3)]
        # The whole gains over the leaf 0 what the leaf 1 beside it gains, and nothing over the latter.
        tree = ((0,), (1,), (2, 0, 1))
        self.assertIs(shows_gap(*grow, (tree, (0,))), True)
        self.assertIs(shows_gap(*grow, (tree, (1,))), False)
        tree = ((0,), (1,), (2, 1, 0))
        self.assertIs(shows_gap(*grow, (tree, (0,))), False)
        self.assertIs(shows_gap(*grow, (tree, (1,))), True)
        tree = ((0,), (1,), (2, 1, 0), (2, 0, 2))
        self.assertIs(shows_gap(*grow, (tree, (1, 1))), True)
        self.assertIs(shows_gap(*grow, (tree, (1, 0))), False)
        self.assertIs(shows_gap(*grow, (tree, (0,))), True)
        self.assertIs(shows_gap(*grow, (tree, (0, 0))), False)
        self.assertIs(shows_gap(*grow, (tree, (1, 1, 0))), False)
        for path in ((2,), (-1,), (1, -1), (1, 2), (-2,), (1, -2), (3,), (10**20 - 1,), (True,), (False,), (1, True),
                     (True, 1), ("1",), (None,), ((1,),), ([1],), (1, None), (1, ()), (1, (1,)), (1, 1, None)):
            self.assertIs(shows_gap(*grow, (tree, path)), False, path)

    def test_the_same_part_named_twice(self):
        grow = [((0, 2), 1, ((0, 0, (), dear), (0, 1, (0, 0), 0)), ()) for dear in (1, 3)]
        for path in ((0,), (1,), (1, 0, 1), (0,) * 4):
            self.assertIs(shows_gap(*grow, (doubled(1, 5), path)), True)
        self.assertIs(shows_gap(*grow, (doubled(1, 5), (0,) * 5)), False)
        self.assertIs(shows_gap(*grow, (doubled(1, 100), (0, 1) * 49)), True)
        self.assertIs(shows_gap(*grow, (doubled(1, 100), (0, 1) * 49 + (0,))), True)
        self.assertIs(shows_gap(*grow, (doubled(1, 100), (0, 1) * 50)), False)
        self.assertIs(shows_gap(*grow, (doubled(1, 100), (1,) * 4000)), False)
        self.assertIs(shows_gap(*grow[::-1], (doubled(1, 100), (0,))), False)

    def test_just_the_same_pair(self):
        """The states have to be the same in both machines."""
        one = ((0, 1), 2, ((0, 0, (), 0), (1, 1, (0,), 1), (0, 1, (1,), 1)), ())
        other = ((0, 1), 1, ((0, 0, (), 0), (0, 1, (0,), 2)), ())
        for length, depth, answer in ((3, 2, True), (3, 1, False), (4, 2, True), (4, 3, False), (6, 4, True)):
            self.assertIs(shows_gap(one, other, (chain(1, length), (0,) * depth)), answer)
            self.assertIs(shows_gap(other, one, (chain(1, length), (0,) * depth)), False)
        dear = ((0, 1), 2, one[2][:1] + ((1, 1, (0,), 4), (0, 1, (1,), 4)), ())
        for length, depth, answer in ((3, 2, True), (3, 1, False), (4, 2, True), (4, 3, False), (6, 4, True)):
            self.assertIs(shows_gap(other, dear, (chain(1, length), (0,) * depth)), answer)

    def test_the_goal_is_not_the_base(self):
        """Not the goal price is to be greater, but the base."""
        for one, other in some_pairs(80):
            for nested in all_trees(one[0], 4):
                for path, part in all_parts(nested):
                    if shows_gap(one, other, (written(nested), path)):
                        rows = [[relative(prices(machine, written(some))) for machine in (one, other)]
                                for some in (nested, part)]
                        self.assertEqual([row[0] for row in rows[0]], [row[0] for row in rows[1]])
                        self.assertGreater(rows[0][1][1] - rows[0][0][1], rows[1][1][1] - rows[1][0][1])

    def test_nodes_that_are_not_needed(self):
        self.assertIs(shows_gap(*SLOPE, (((0,), (1, 0), (0,)), (0,))), False)
        self.assertIs(shows_gap(*SLOPE, (((0,), (0,), (1, 0)), (0,))), True)

    def test_any_value(self):
        thing = (chain(1, 3), (0, 0))
        self.assertIs(shows_gap(*SLOPE, thing), True)
        for wrong in wrong_values() + spoiled(thing) + [
            None, 0, (), thing[:1], thing + ((),), thing + (0,), list(thing), thing[::-1], (thing,), dict([thing]),
            (chain(1, 3), [0, 0]), (list(chain(1, 3)), (0, 0)), (chain(1, 3), 0), (chain(1, 3), None),
            (chain(1, 3), "00"), (chain(1, 3), {0: 0}), (None, (0,)), ((), (0,)), ((), ()), (NEAR_TREE, (0,)),
            (chain(1, 3), (0, 0, 0)), (chain(1, 3), deep(tuple, 20)), (deep(tuple, 20), (0,)),
            (chain(1, 3), ("gap", 0)), ("endless", chain(1, 3)), (LEAF, (0,)), (chain(1, 3), (0,) * 4000),
            (chain(1, 3), True), (((0,), (2, 0)), (0,)), TooMany(1, 2),
        ]:
            self.assertIs(shows_gap(*SLOPE, wrong), False, wrong)
        for place in places(thing):
            wrong = replaced(thing, place, likeness(part_at(thing, place)))
            self.assertIs(shows_gap(*SLOPE, wrong), False, wrong)
        for wrong in wrong_values() + [None, (), ("alike",), (LEAF, ()), (LEAF, (0,))]:
            self.assertIs(asked_twice(self, shows_gap, SMALL, SMALL, wrong), False)


class Mattering(unittest.TestCase):
    def too_many(self, one, other, amount, limit=60):
        for call in (lambda: gap(one, other), lambda: shows_gap(one, other, None), lambda: gap(other, one),
                     lambda: shows_gap(one, other, (chain(1, 3), (0,)))):
            with self.assertRaises(TooMany) as raised:
                call()
            self.assertEqual((raised.exception.amount, raised.exception.limit), (amount, limit))

    def grids(self, caps, leaf, *reads):
        """Two machines that count by different operators, and a leaf that has a price in form 1 alone.

        Operator 3 leads from form 1 to all forms in the machines for which reads tells so.
        """
        found = []
        for both, read in zip(((caps[0], 0), (0, caps[1])), reads):
            arities, forms, rows, steps = counters(both, (1, 2), (1, 0))
            rows += ((1, 4, (), 0),) if leaf else ()
            rows += tuple([(form, 3, (1,), 0) for form in range(forms)]) if read else ()
            found.append((arities, forms, rows, steps))
        return found

    def test_60_and_61_pairs_that_matter_to_both(self):
        one, other = self.grids((5, 9), False, True, False)
        # The pair of the leaf that has no price comes to 61, but does not matter.
        self.assertEqual((len(states(one)), len(states(other))), (7, 11))
        self.assertEqual(gap(one, other), (0, 0))
        self.assertIs(shows_gap(one, other, (chain(1, 3), (0,))), False)
        one, other = self.grids((5, 9), True, True, True)
        self.too_many(one, other, 61)

    def test_pairs_that_matter_to_one_alone_do_not_count(self):
        for reads in ((True, False), (False, True), (False, False)):
            one, other = self.grids((5, 9), True, *reads)
            self.assertEqual(gap(one, other), (0, 0))
            self.assertIs(shows_gap(one, other, None), False)

    def test_their_number(self):
        one, other = self.grids((6, 9), True, True, True)
        self.too_many(one, other, 71)
        one, other = self.grids((19, 18), True, True, True)
        self.too_many(one, other, 381)

    def test_400_and_401_pairs(self):
        """All 400 matter to both; with one more the pairs are too many ahead of that."""
        self.too_many(counters((19, 0), (1, 2)), counters((0, 19), (1, 2)), 400)
        self.too_many(counters((19, 0), (1, 2), (0,)), counters((0, 19), (1, 2), (0,)), 401, 400)

    def test_many_pairs_of_which_few_matter(self):
        """382 pairs arise, but what counts never gets to the goal."""
        found = []
        for caps, dear in (((18, 0), 3), ((0, 19), 7)):
            arities, forms, rows, steps = counters(caps, (1, 2), (0,))
            # All forms are one further up, and just the leaf 3 has a price in the goal.
            rows = tuple([(form + 1, operator, tuple([wanted + 1 for wanted in arguments]), price)
                          for form, operator, arguments, price in rows])
            steps = tuple([(start + 1, end + 1, price) for start, end, price in steps])
            found.append((arities, 4, rows + ((0, 3, (), dear),), steps))
        self.assertEqual([len(states(machine)) for machine in found], [21, 22])
        self.assertEqual(gap(*found), (4, 4))
        self.assertEqual(gap(*found[::-1]), (-4, -4))
        self.assertIs(shows_gap(*found, (chain(1, 3), (0,))), False)
        self.assertEqual(compared(*found), ("unlike", ((3,),)))

    def test_60_pairs_with_gains(self):
        """Trees that gain are high here, and are still found."""
        one, other = self.grids((5, 9), False, True, True)
        self.assertEqual(gap(one, other), (None, 0))
        self.assertEqual(gap(other, one), (0, None))
        for length in range(2, 9):
            tree = chain(1, length) + ((3, length - 1),)
            self.assertIs(shows_gap(other, one, (tree, (0,) * length)), True)
            self.assertIs(shows_gap(one, other, (tree, (0,) * length)), False)
        self.assertIs(is_tree(one[0], tree), True)


if __name__ == "__main__":
    unittest.main()
