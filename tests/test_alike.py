import unittest

from codepick.alike import compared, gap, shows_compared, shows_gap
from codepick.chooser import states
from codepick.errors import Endless, NoMachine, OtherArities, TooMany
from codepick.prices import prices
from codepick.trees import is_tree
from brute import all_trees, rows_by_size, written
from samples import (NEAR, NEAR_TREE, SMALL, WIDE, asked_twice, chain, chance, counters, deep, doubled, machine_for,
                     spoiled, varied, wrong_values)

LEAF = ((0,),)
ALIKE = ("alike",)
NEAR_WITHOUT_3 = NEAR[:2] + (NEAR[2][:3] + NEAR[2][4:],) + NEAR[3:]
# The leaf in the goal form costs more.
NEAR_DEAR = NEAR[:2] + (((0, 0, (), 2),) + NEAR[2][1:],) + NEAR[3:]
# Endless with two forms, and with three just too many.
GROWING = counters((None,), (1, 2))
CROWD = counters((None, None), (1, 2))
# They count by the one and by the other operator. Goal prices are always 0.
COLUMNS = counters((19, 0), (1, 2))
ROWS = counters((0, 19), (1, 2))


def goals(one, other, tree):
    return prices(one, tree)[0], prices(other, tree)[0]


def kind(pair):
    """What a tree with these goal prices shows."""
    if (pair[0] is None) != (pair[1] is None):
        return "only"
    return "alike" if pair[0] == pair[1] else "unlike"


def some_pairs(amount):
    """Pairs of machines of which the states can be told, many of them alike or nearly so."""
    found = []
    for seed in range(amount):
        dice = chance(seed)
        forms = 1 + seed % 3
        arities = ((0, 1), (0, 1, 2), (0, 0, 2), (0, 1, 1))[seed // 3 % 4]
        one = machine_for(dice, arities, forms, dice.randint(4, 9), dice.randint(0, 4), 3, seed % 5 == 0)
        other = varied(dice, one)
        if seed % 7 == 0:
            other = machine_for(dice, arities, 1 + dice.randrange(3), dice.randint(4, 9), 3, 3)
        try:
            states(one)
            states(other)
        except (Endless, TooMany):
            continue
        found.append((one, other))
    return found


class Compared(unittest.TestCase):
    def check(self, one, other, word):
        answer = asked_twice(self, compared, one, other)
        self.assertIs(type(answer), tuple)
        self.assertEqual(answer[0], word)
        if word == "alike":
            self.assertEqual(answer, ALIKE)
        else:
            self.assertEqual(len(answer), 2)
            self.assertIs(is_tree(one[0], answer[1]), True)
            self.assertEqual(kind(goals(one, other, answer[1])), word)
        self.assertIs(asked_twice(self, shows_compared, one, other, answer), True)
        return answer

    def both(self, one, other, word):
        self.check(one, other, word)
        self.check(other, one, word)

    def test_a_machine_and_itself(self):
        for machine in (NEAR, SMALL, WIDE, ((1,), 2, (), ()), COLUMNS):
            self.check(machine, machine, "alike")

    def test_the_short_session(self):
        """No tree gets dearer without instruction 3; each other one is needed."""
        self.both(NEAR, NEAR_WITHOUT_3, "alike")
        for number in (0, 1, 2, 4):
            fewer = NEAR[:2] + (NEAR[2][:number] + NEAR[2][number + 1:],) + NEAR[3:]
            if number != 4:
                self.assertNotEqual(compared(NEAR, fewer), ALIKE)
        self.both(NEAR, NEAR_DEAR, "unlike")
        self.both(NEAR, NEAR[:2] + (NEAR[2][1:],) + NEAR[3:], "only")

    def test_by_name(self):
        self.assertEqual(compared(one=NEAR, other=NEAR_WITHOUT_3), ALIKE)
        self.assertEqual(compared(other=NEAR_WITHOUT_3, one=NEAR), ALIKE)
        self.assertIs(shows_compared(one=NEAR, other=NEAR_WITHOUT_3, thing=ALIKE), True)
        self.assertIs(shows_compared(thing=("unlike", LEAF), other=NEAR_DEAR, one=NEAR), True)

    def test_other_forms(self):
        one = ((0, 2), 1, ((0, 0, (), 5), (0, 1, (0, 0), 2)), ())
        two = ((0, 2), 2, ((1, 0, (), 1), (1, 1, (0, 0), 0)), ((1, 0, 4),))
        self.both(one, two, "unlike")
        self.both(one, ((0, 2), 2, ((1, 0, (), 1), (0, 1, (0, 0), 2)), ((1, 0, 4),)), "alike")
        four = ((0, 2), 4, ((3, 0, (), 1), (0, 1, (0, 0), 2)), ((3, 2, 2), (2, 1, 2), (1, 0, 0)))
        self.both(one, four, "alike")

    def test_the_goal_alone_counts(self):
        one = ((0, 1), 2, ((0, 0, (), 1), (1, 0, (), 1), (0, 1, (0,), 1)), ())
        self.both(one, one[:2] + (((0, 0, (), 1), (0, 1, (0,), 1)),) + one[3:], "alike")
        self.both(one, one[:2] + (((0, 0, (), 1), (1, 0, (), 9), (0, 1, (0,), 1)),) + one[3:], "alike")
        self.both(one, one[:2] + (((0, 0, (), 1), (1, 0, (), 0), (0, 1, (1,), 1)),) + one[3:], "only")

    def test_no_goal_prices_at_all(self):
        one = ((0, 1), 2, ((1, 0, (), 1), (1, 1, (1,), 3)), ())
        self.both(one, ((0, 1), 2, ((1, 0, (), 7), (1, 1, (1,), 0)), ()), "alike")
        self.both(one, ((0, 1), 4, (), ()), "alike")
        self.both(((2,), 2, ((0, 0, (0, 0), 1),), ()), ((2,), 1, (), ()), "alike")

    def test_only_comes_ahead_of_unlike(self):
        one = ((0, 0), 1, ((0, 0, (), 1), (0, 1, (), 2)), ())
        self.assertEqual(compared(one, ((0, 0), 1, ((0, 0, (), 5),), ())), ("only", ((1,),)))
        self.assertEqual(compared(((0, 0), 1, ((0, 0, (), 5),), ()), one), ("only", ((1,),)))
        # The only tree that has a goal price in just one machine is high, and all others have different ones.
        one = counters((20,), (1, (1,)))
        rows = tuple([row[:3] + (row[3] + (row[1] == 0),) for row in one[2]])
        late = ((0, 1, 1), 2, rows, ())
        self.assertRaises(Endless, compared, one, late)
        self.both(one, one[:2] + (rows,) + one[3:], "unlike")

    def test_only_in_either_machine(self):
        one = ((0, 0), 1, ((0, 0, (), 1),), ())
        other = ((0, 0), 1, ((0, 0, (), 1), (0, 1, (), 1)), ())
        self.check(one, other, "only")
        self.check(other, one, "only")
        third = ((0, 0), 1, ((0, 1, (), 1),), ())
        self.check(one, third, "only")
        self.assertIs(shows_compared(one, third, ("only", ((0,),))), True)
        self.assertIs(shows_compared(one, third, ("only", ((1,),))), True)

    def test_unlike_in_high_trees_alone(self):
        """The counters are read only by the second operator, and differ from 20 on."""
        one = counters((19,), (1, (1,)))
        other = counters((20,), (1, (1,)))
        answer = self.check(one, other, "unlike")
        self.assertGreater(len(answer[1]), 20)
        self.both(one, counters((19,), (1, (1,))), "alike")
        self.assertIs(shows_compared(one, other, ("unlike", chain(1, 20) + ((2, 19),))), False)
        self.assertIs(shows_compared(one, other, ("unlike", chain(1, 21) + ((2, 20),))), True)
        self.assertIs(shows_compared(one, other, ("unlike", chain(1, 21))), False)

    def test_only_in_high_trees_alone(self):
        """A tree of operator 1 gets through four forms, and just then through operator 2 to the goal or not."""
        rows = ((1, 0, (), 0), (2, 1, (1,), 0), (3, 1, (2,), 0), (0, 1, (3,), 0), (1, 1, (0,), 0))
        one = ((0, 1, 1), 4, rows, ())
        other = ((0, 1, 1), 4, rows + ((0, 2, (3,), 1),), ())
        self.check(one, other, "only")
        self.assertIs(shows_compared(one, other, ("only", chain(1, 3) + ((2, 2),))), True)
        self.assertIs(shows_compared(one, other, ("only", chain(1, 2) + ((2, 1),))), False)

    def test_equal_pairs_with_unequal_differences(self):
        """Goal prices are equal for the first tree with each pair, but not for others."""
        one = ((0, 1), 1, ((0, 0, (), 1), (0, 1, (0,), 2)), ())
        other = ((0, 1), 1, ((0, 0, (), 1), (0, 1, (0,), 3)), ())
        self.both(one, other, "unlike")
        # The pair with different differences has no goal price, and so it shows only in a context.
        one = ((0, 1, 1), 2, ((1, 0, (), 1), (1, 1, (1,), 2), (0, 2, (1,), 4)), ())
        other = ((0, 1, 1), 2, ((1, 0, (), 1), (1, 1, (1,), 3), (0, 2, (1,), 4)), ())
        self.both(one, other, "unlike")
        # There it would make goal prices equal for the other one of the two trees.
        other = ((0, 1, 1), 2, ((1, 0, (), 1), (1, 1, (1,), 3), (0, 2, (1,), 3)), ())
        self.both(one, other, "unlike")
        other = ((0, 1, 1), 2, ((1, 0, (), 2), (1, 1, (1,), 1), (0, 2, (1,), 4)), ())
        self.both(one, other, "unlike")

    def test_a_context_with_siblings(self):
        rows = ((1, 0, (), 1), (2, 1, (), 1), (2, 2, (2,), 1), (0, 3, (2, 1), 0))
        one = ((0, 0, 1, 2), 3, rows, ())
        other = ((0, 0, 1, 2), 3, rows[:2] + ((2, 2, (2,), 4),) + rows[3:], ())
        self.both(one, other, "unlike")
        # Without the sibling there is no such context, and then it does not matter.
        self.both(((0, 0, 1, 2), 3, rows[1:], ()), ((0, 0, 1, 2), 3, other[2][1:], ()), "alike")

    def test_a_long_context(self):
        """Operator 2 costs more in form 3, from which operator 1 leads to the goal through all other forms."""
        rows = ((3, 0, (), 0), (2, 1, (3,), 1), (1, 1, (2,), 1), (0, 1, (1,), 1))
        one = ((0, 1, 1), 4, rows + ((3, 2, (3,), 1),), ())
        other = ((0, 1, 1), 4, rows + ((3, 2, (3,), 2),), ())
        answer = self.check(one, other, "unlike")
        self.assertGreaterEqual(len(answer[1]), 5)
        self.both(one, other, "unlike")
        self.both(one, one[:2] + (one[2][::-1],) + one[3:], "alike")

    def test_pairs_that_do_not_matter(self):
        """Differences may be any at pairs from which no context leads to a goal price."""
        one = ((0, 0, 1), 2, ((0, 0, (), 1), (1, 1, (), 1), (1, 2, (1,), 2)), ())
        other = ((0, 0, 1), 2, ((0, 0, (), 1), (1, 1, (), 8), (1, 2, (1,), 5)), ())
        self.both(one, other, "alike")
        self.both(one, ((0, 0, 1), 1, ((0, 0, (), 1),), ()), "alike")

    def test_differences_that_take_one_another_back(self):
        """What is dearer below is cheaper above, where each tree has both."""
        one = ((0, 1), 2, ((1, 0, (), 7), (0, 1, (1,), 2)), ())
        other = ((0, 1), 2, ((1, 0, (), 2), (0, 1, (1,), 7)), ())
        self.both(one, other, "alike")
        self.both(one, ((0, 1), 2, ((1, 0, (), 2), (0, 1, (1,), 6)), ()), "unlike")
        # An operator with one argument each time shifts between two forms.
        one = ((0, 1), 2, ((0, 0, (), 0), (1, 1, (0,), 5), (0, 1, (1,), 1)), ())
        other = ((0, 1), 2, ((0, 0, (), 0), (1, 1, (0,), 2), (0, 1, (1,), 4)), ())
        self.both(one, other, "alike")

    def test_against_trees_with_a_few_nodes(self):
        words = []
        for one, other in some_pairs(260):
            answer = compared(one, other)
            by_size = rows_by_size(one[0], (one, other), 8)
            found = {kind((here[0], there[0])) for rows in by_size for here, there in rows}
            words.append(answer[0])
            self.check(one, other, answer[0])
            if answer == ALIKE:
                self.assertLessEqual(found, {"alike"})
            elif answer[0] == "unlike":
                self.assertNotIn("only", found)
        self.assertGreater(min([words.count(word) for word in ("alike", "only", "unlike")]), 25)

    def test_conversions_in_circles(self):
        one = ((0, 2), 3, ((2, 0, (), 3), (1, 1, (0, 2), 1)), ((0, 1, 1), (1, 2, 1), (2, 0, 1), (2, 1, 0)))
        self.both(one, one[:3] + (one[3] + ((0, 2, 3), (1, 0, 2)),), "alike")
        self.both(one, one[:3] + (one[3] + ((0, 2, 2), (1, 0, 1)),), "unlike")

    def test_a_machine_without_some_instructions_is_nowhere_cheaper(self):
        seen = 0
        for one, other in some_pairs(150):
            dice = chance(len(repr(one)))
            fewer = one[:2] + (tuple([row for row in one[2] if dice.random() < 0.8]),) + one[3:]
            try:
                answer = compared(one, fewer)
            except (Endless, TooMany):
                continue
            if answer != ALIKE:
                here, there = goals(one, fewer, answer[1])
                self.assertIsNotNone(here)
                self.assertTrue(there is None or there > here)
                seen += 1
            for nested in all_trees(one[0], 5):
                for here, there in zip(prices(one, written(nested)), prices(fewer, written(nested))):
                    self.assertTrue(there is None or here is not None and here <= there)
        self.assertGreater(seen, 30)


class ShowsCompared(unittest.TestCase):
    def test_any_tree_that_is_so(self):
        seen = 0
        for one, other in some_pairs(120) + [(NEAR, NEAR_DEAR), (NEAR, NEAR_WITHOUT_3)]:
            for nested in all_trees(one[0], 4):
                tree = written(nested)
                found = kind(goals(one, other, tree))
                for word in ("only", "unlike"):
                    self.assertIs(shows_compared(one, other, (word, tree)), found == word)
                self.assertIs(shows_compared(one, other, ("alike", tree)), False)
                seen += found != "alike"
            self.assertIs(asked_twice(self, shows_compared, one, other, ALIKE), compared(one, other) == ALIKE)
        self.assertGreater(seen, 150)

    def test_unlike_where_there_is_only(self):
        one = ((0, 0), 1, ((0, 0, (), 1), (0, 1, (), 2)), ())
        other = ((0, 0), 1, ((0, 0, (), 5),), ())
        self.assertEqual(compared(one, other)[0], "only")
        self.assertIs(shows_compared(one, other, ("unlike", LEAF)), True)
        self.assertIs(shows_compared(one, other, ("only", LEAF)), False)
        self.assertIs(shows_compared(one, other, ("unlike", ((1,),))), False)
        self.assertIs(shows_compared(one, other, ("only", ((1,),))), True)
        self.assertIs(shows_compared(one, other, ALIKE), False)

    def test_trees_with_very_many_nodes(self):
        tree = doubled(1, 100)
        self.assertIs(shows_compared(NEAR, NEAR_DEAR, ("unlike", tree)), False)
        self.assertIs(shows_compared(NEAR, NEAR_DEAR, ("unlike", tree + ((0,),))), True)
        one = ((0, 2), 1, ((0, 0, (), 1), (0, 1, (0, 0), 0)), ())
        other = ((0, 2), 1, ((0, 0, (), 2), (0, 1, (0, 0), 0)), ())
        self.assertIs(shows_compared(one, other, ("unlike", tree)), True)
        self.assertIs(shows_compared(one, other, ("only", tree)), False)
        self.assertIs(shows_compared(one, other, ("unlike", tree + ((0,),))), True)

    def test_any_value(self):
        without_leaf = NEAR[:2] + (NEAR[2][1:],) + NEAR[3:]
        for other in (NEAR_WITHOUT_3, NEAR_DEAR, without_leaf):
            answer = compared(NEAR, other)
            self.assertIs(shows_compared(NEAR, other, answer), True)
            for thing in wrong_values() + spoiled(answer) + [
                None, 0, (), list(answer), dict([("alike", 0)]), answer[0], (answer,), answer * 2, answer + ((),),
                answer + (None,), (answer[0], answer), ("Alike",), ("alike", None), ("alike", LEAF), ("alike", ()),
                (["alike"],), (("alike",),), ("only",), ("unlike",), ("only", None), ("unlike", None), ("only", ()),
                ("unlike", ()), ("only", ((1, 0, 0),)), ("unlike", ((2,),)), ("only", [(0,)]), ("unlike", [[0]]),
                ("unlike", 0), ("unlike", "0"), (0, LEAF), (None, LEAF), (True, LEAF), ("", LEAF), (("only",), LEAF),
                ("unlike", {0: 0}), ("only", deep(tuple, 20)), ("unlike", deep(list, 20)), ("only", (7,) * 4000),
                OtherArities(), ("unlike", OtherArities()), ("finite", 0), ("only", LEAF, LEAF), ("unlike", LEAF, LEAF),
                ("unlike", ((False,),)), ("only", ((False,),)),
            ]:
                self.assertIs(shows_compared(NEAR, other, thing), False, thing)

    def test_a_tree_for_other_arities(self):
        self.assertIs(shows_compared(NEAR, NEAR_DEAR, ("unlike", ((0,), (1, 0)))), False)
        self.assertIs(shows_compared(COLUMNS, COLUMNS, ("unlike", NEAR_TREE)), False)


def calls(one, other, thing=None):
    """The functions of the file."""
    return [
        lambda: compared(one, other), lambda: shows_compared(one, other, thing),
        lambda: gap(one, other), lambda: shows_gap(one, other, thing),
    ]


class Refusals(unittest.TestCase):
    def test_no_machine(self):
        for machine in wrong_values() + spoiled(SMALL) + [None, 0, (), NEAR[:3]]:
            for other in (NEAR, SMALL, GROWING, CROWD, machine):
                for call in calls(machine, other) + calls(other, machine):
                    self.assertRaises(NoMachine, call)

    def test_other_arities(self):
        for one, other in ((NEAR, SMALL), (SMALL, ((0, 0), 1, (), ())), (((0, 1), 1, (), ()), ((1, 0), 1, (), ())),
                           (GROWING, SMALL), (CROWD, NEAR), (GROWING, counters((None, None), (1,)))):
            for thing in (None, ALIKE, ("unlike", LEAF)):
                for call in calls(one, other, thing) + calls(other, one, thing):
                    self.assertRaises(OtherArities, call)

    def too_many(self, call, amount, limit):
        with self.assertRaises(TooMany) as raised:
            call()
        self.assertEqual((raised.exception.amount, raised.exception.limit), (amount, limit))

    def test_states_of_one_then_of_other(self):
        fine = counters((3,), (1, None))
        for thing in (None, ALIKE, ("unlike", LEAF)):
            for call in (calls(GROWING, fine, thing) + calls(fine, GROWING, thing) + calls(GROWING, GROWING, thing)
                         + calls(GROWING, CROWD, thing)):
                self.assertRaises(Endless, call)
            for call in (calls(CROWD, fine, thing) + calls(fine, CROWD, thing) + calls(CROWD, CROWD, thing)
                         + calls(CROWD, GROWING, thing)):
                self.too_many(call, 201, 200)

    def test_400_and_401_pairs(self):
        self.assertEqual(compared(COLUMNS, ROWS), ALIKE)
        self.assertIs(shows_compared(COLUMNS, ROWS, ALIKE), True)
        self.assertIs(shows_compared(COLUMNS, ROWS, ("unlike", LEAF)), False)
        more = [counters((19, 0), (1, 2), (0,)), counters((0, 19), (1, 2), (0,))]
        self.assertEqual([len(states(machine)) for machine in more], [21, 21])
        for one, other in (more, more[::-1]):
            for thing in (None, ALIKE, ("unlike", LEAF)):
                for call in calls(one, other, thing):
                    self.too_many(call, 401, 400)

    def test_many_more_pairs(self):
        one, other = counters((4, 4, 7), (1, 2, 3, None)), counters((7, 4, 4), (1, None, None, 2))
        self.assertEqual(len(states(one)), 200)
        for call in calls(one, other, ALIKE):
            self.too_many(call, 401, 400)

    def test_400_pairs_with_two_arguments(self):
        """Very many combinations are gone through, but no trees."""
        arities = (0, 1, 1, 2, 2)
        goals_alone = ((0, 3, (0, 0), 0), (0, 4, (0, 0), 0))
        one = (arities, 3, COLUMNS[2] + goals_alone + ((1, 3, (1, 1), 0), (1, 4, (0, 1), 1)), COLUMNS[3])
        other = (arities, 3, ROWS[2] + goals_alone + ((2, 3, (2, 2), 0), (2, 4, (2, 0), 1)), ROWS[3])
        self.assertEqual(compared(one, other), ALIKE)
        dear = other[:2] + (ROWS[2] + goals_alone[:1] + ((0, 4, (0, 0), 1),) + other[2][-2:],) + other[3:]
        answer = compared(one, dear)
        self.assertEqual(answer[0], "unlike")
        self.assertEqual(kind(goals(one, dear, answer[1])), "unlike")
        self.assertIs(shows_compared(one, dear, answer), True)


if __name__ == "__main__":
    unittest.main()
