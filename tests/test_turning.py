import unittest

from codepick.covers import first_cover, spectrum
from codepick.errors import NoMachine, NoNumber, NoPrice, NoTree, TooMany
from codepick.prices import prices
from codepick.trees import nodes
from codepick.turning import given_up, turns, uses
from brute import Covers
from samples import (NEAR, NEAR_TREE, SMALL, WIDE, asked_twice, chain, chance, doubled, machine_for, numbers_of, priced,
                     some_machine, some_tree, spoiled, unshared, wrong_values)

LEAF = ((0,),)
# Two equal instructions and two equal conversions; the goal is come to by a conversion only.
TWICE = ((0,), 2, ((1, 0, (), 2), (1, 0, (), 2)), ((1, 0, 3), (1, 0, 3)))
ROUND = ((0, 1), 3, ((1, 0, (), 1), (2, 1, (2,), 0)), ((0, 1, 0), (1, 2, 0), (2, 0, 0), (1, 0, 0), (1, 0, 20)))


def lines_of(machine, nested, number):
    """For all covers of the goal the price without what the number costs, and how often it stands in it."""
    lines = {}
    for cover, price in Covers(priced(machine, number, 0)).all_of(nested, 0):
        taken = [made for first, way in cover for made in (first, *way)]
        lines[price, taken.count(number)] = True
    return list(lines)


class Brute:
    """What is asked of one tree and one number, found by going through all covers and all prices."""

    def __init__(self, machine, nested, number):
        self.lines = lines_of(machine, nested, number)
        self.goals = [min([cost + price * many for cost, many in self.lines], default=None) for price in range(100)]

    def turns(self):
        if not self.lines:
            return ()
        found = [(0, self.goals[0])]
        for price in range(1, 99):
            if self.goals[price + 1] - self.goals[price] < self.goals[price] - self.goals[price - 1]:
                found.append((price, self.goals[price]))
        return tuple(found + [(99, self.goals[99])])

    def uses(self, price):
        if not self.lines:
            return None
        least = self.goals[price]
        amounts = [many for cost, many in self.lines if cost + price * many == least]
        return min(amounts), max(amounts)

    def given_up(self):
        if not self.lines:
            return 0
        return min([price for price in range(100) if self.uses(price)[1] == 0], default=None)


def calls(machine, tree, number):
    return [
        lambda: turns(machine, tree, number), lambda: given_up(machine, tree, number),
        lambda: uses(machine, tree, number, 5),
    ]


class Examples(unittest.TestCase):
    def test_near(self):
        """Its covers cost 1, 3 and 3."""
        for number, expected, price in (
            (0, ((0, 0), (99, 99)), None),
            (1, ((0, 1), (1, 3), (99, 3)), 2),
            (2, ((0, 1), (2, 3), (99, 3)), 3),
            (3, ((0, 1), (99, 1)), 0),
            (4, ((0, 1), (2, 3), (99, 3)), 3),
        ):
            self.assertEqual(asked_twice(self, turns, NEAR, NEAR_TREE, number), expected)
            self.assertEqual(asked_twice(self, given_up, NEAR, NEAR_TREE, number), price)
        for number, price, expected in (
            (0, 0, (1, 3)), (0, 1, (1, 1)), (0, 99, (1, 1)), (1, 0, (2, 2)), (1, 1, (0, 2)), (1, 2, (0, 0)),
            (3, 0, (0, 0)), (4, 1, (1, 1)), (4, 2, (0, 1)), (4, 3, (0, 0)), (4, 99, (0, 0)),
        ):
            self.assertEqual(asked_twice(self, uses, NEAR, NEAR_TREE, number, price), expected)

    def test_turn_between_two_prices(self):
        """3 * p and p + 5 are equal at 2.5, so that F turns at 2 and at 3."""
        machine = ((0, 2), 3, ((0, 0, (), 1), (1, 0, (), 0), (0, 1, (0, 0), 0), (2, 1, (1, 1), 5), (0, 1, (2, 0), 0)), ())
        self.assertEqual(turns(machine, NEAR_TREE, 0), ((0, 0), (2, 6), (3, 8), (99, 104)))
        for price, expected in ((0, (3, 3)), (2, (3, 3)), (3, (1, 1)), (99, (1, 1))):
            self.assertEqual(uses(machine, NEAR_TREE, 0, price), expected)
        self.assertIsNone(given_up(machine, NEAR_TREE, 0))
        self.assertEqual(turns(machine, NEAR_TREE, 3), ((0, 1), (2, 3), (99, 3)))

    def test_never_given_up(self):
        """Every cover has it."""
        self.assertEqual(turns(SMALL, LEAF, 0), ((0, 0), (99, 99)))
        self.assertIsNone(given_up(SMALL, LEAF, 0))
        for price in (0, 50, 99):
            self.assertEqual(uses(SMALL, LEAF, 0, price), (1, 1))

    def test_given_up_at_the_greatest_price(self):
        """A leaf at any price stands against 97, 98 and 99."""
        tree = chain(1, 5) + ((2, 4),)
        for least, expected in ((17, 98), (18, 99), (19, None)):
            machine = ((0, 1, 1), 2, ((0, 0, (), 20), (1, 0, (), least), (0, 1, (0,), 0), (1, 1, (1,), 20), (0, 2, (0,), 0),
                                      (0, 2, (1,), 0)), ())
            self.assertEqual(turns(machine, tree, 0), ((0, 0),) + ((80 + least, 80 + least),) * (least < 19)
                             + ((99, 80 + least),))
            self.assertEqual(given_up(machine, tree, 0), expected)
            self.assertEqual(uses(machine, tree, 0, 80 + least), (0, 1))
            self.assertEqual(uses(machine, tree, 0, 79 + least), (1, 1))
            self.assertEqual(uses(machine, tree, 0, 99), (0, int(least == 19)))

    def test_equal_ones_told_twice(self):
        """Beyond the price of the other one it is not taken, and at this price it may be."""
        for number, price in ((0, 2), (1, 2), (2, 3), (3, 3)):
            self.assertEqual(turns(TWICE, LEAF, number), ((0, 5 - price), (price, 5), (99, 5)))
            self.assertEqual(uses(TWICE, LEAF, number, price - 1), (1, 1))
            self.assertEqual(uses(TWICE, LEAF, number, price), (0, 1))
            self.assertEqual(uses(TWICE, LEAF, number, price + 1), (0, 0))
            self.assertEqual(given_up(TWICE, LEAF, number), price + 1)

    def test_conversions_at_no_price_that_lead_round(self):
        tree = chain(1, 3)
        for number in numbers_of(ROUND):
            brute = Brute(ROUND, unshared(tree), number)
            self.assertEqual(turns(ROUND, tree, number), brute.turns())
            self.assertEqual(given_up(ROUND, tree, number), brute.given_up())
            for price in (0, 1, 20, 99):
                self.assertEqual(uses(ROUND, tree, number, price), brute.uses(price))
        # (1, 0, 20) at no price is as good as (1, 0, 0).
        self.assertEqual(uses(ROUND, LEAF, 6, 0), (0, 1))
        self.assertEqual(given_up(ROUND, LEAF, 6), 1)

    def test_own_price_does_not_matter(self):
        for number in numbers_of(NEAR):
            for price in (0, 7, 20):
                other = priced(NEAR, number, price)
                self.assertEqual(turns(other, NEAR_TREE, number), turns(NEAR, NEAR_TREE, number))
                self.assertEqual(given_up(other, NEAR_TREE, number), given_up(NEAR, NEAR_TREE, number))
                self.assertEqual(uses(other, NEAR_TREE, number, 1), uses(NEAR, NEAR_TREE, number, 1))

    def test_without_a_cover(self):
        for machine, tree in (
            (((0,), 2, ((1, 0, (), 3),), ((0, 1, 1),)), LEAF), (((0, 1), 1, ((0, 1, (0,), 0),), ()), LEAF),
            (((0, 1), 1, ((0, 1, (0,), 0),), ()), chain(1, 40)),
            (((0, 1), 2, ((0, 0, (), 1), (0, 1, (1,), 1)), ()), chain(1, 2)),
        ):
            self.assertIsNone(first_cover(machine, tree))
            for number in numbers_of(machine):
                self.assertEqual(asked_twice(self, turns, machine, tree, number), ())
                self.assertIsNone(asked_twice(self, uses, machine, tree, number, 0))
                self.assertIsNone(uses(machine, tree, number, 99))
                self.assertEqual(asked_twice(self, given_up, machine, tree, number), 0)

    def test_by_name(self):
        self.assertEqual(turns(number=1, tree=NEAR_TREE, machine=NEAR), ((0, 1), (1, 3), (99, 3)))
        self.assertEqual(given_up(number=1, tree=NEAR_TREE, machine=NEAR), 2)
        self.assertEqual(uses(price=1, number=1, tree=NEAR_TREE, machine=NEAR), (0, 2))


class AgainstAllCovers(unittest.TestCase):
    def test_all_prices(self):
        seen = {"turned": 0, "never": 0, "always": 0, "given up": 0, "no cover": 0}
        for seed in range(90):
            dice = chance(seed)
            machine = some_machine(dice, 7, 3)
            if seed % 3:
                machine = machine_for(dice, (0, 1, 2), 1 + seed % 4, 8, 3, (1, 5, 20)[seed // 3 % 3])
            tree = some_tree(dice, machine[0], 4)
            if nodes(machine[0], tree) > 7:
                continue
            for number in numbers_of(machine):
                brute = Brute(machine, unshared(tree), number)
                told = asked_twice(self, turns, machine, tree, number)
                self.assertEqual(told, brute.turns())
                self.assertEqual(given_up(machine, tree, number), brute.given_up())
                for price in range(0, 100, 1 if seed % 10 == 1 else 11):
                    self.assertEqual(uses(machine, tree, number, price), brute.uses(price))
                seen["turned"] += len(told) > 2
                seen["no cover"] += not told
                seen["never"] += brute.given_up() == 0
                seen["always"] += brute.given_up() is None
                seen["given up"] += bool(brute.given_up())
        self.assertGreater(min(seen.values()), 30)

    def test_against_covers(self):
        """At prices that a machine can have, uses are those in all covers with the least price."""
        seen = 0
        for seed in range(60):
            dice = chance(seed)
            machine = machine_for(dice, (0, 2), 1 + seed % 4, 6, 2, 3)
            tree = some_tree(dice, machine[0], 3)
            for number in numbers_of(machine):
                for price in (0, 3, 20):
                    turned = priced(machine, number, price)
                    found = Covers(turned).in_order(unshared(tree), 0)
                    least = [cover for cover, cost in found if cost == found[0][1]]
                    amounts = [[made for first, way in cover for made in (first, *way)].count(number) for cover in least]
                    expected = (min(amounts), max(amounts)) if amounts else None
                    self.assertEqual(uses(machine, tree, number, price), expected)
                    seen += bool(amounts)
        self.assertGreater(seen, 300)


class Many(unittest.TestCase):
    def check_facts(self, machine, tree, number):
        """F is straight between its turns, and bent downwards by what is used; at low prices it is that of prices."""
        told = turns(machine, tree, number)
        goals = []
        for (start, low), (end, high) in zip(told, told[1:]):
            slope, rest = divmod(high - low, end - start)
            self.assertEqual(rest, 0)
            goals += [low + slope * more for more in range(end - start)]
        goals.append(told[-1][1])
        self.assertEqual(len(goals), 100)
        for price in range(0, 21, 4):
            self.assertEqual(prices(priced(machine, number, price), tree)[0], goals[price])
        before = None
        for price in range(0, 100, 7):
            fewest, most = uses(machine, tree, number, price)
            self.assertLessEqual(fewest, most)
            if price < 99:
                self.assertLessEqual(goals[price + 1] - goals[price], fewest)
            if price > 0:
                self.assertGreaterEqual(goals[price] - goals[price - 1], most)
            self.assertTrue(before is None or most <= before)
            before = most
        self.check_given_up(machine, tree, number)
        return told

    def check_given_up(self, machine, tree, number):
        price = given_up(machine, tree, number)
        if price is None:
            self.assertGreater(uses(machine, tree, number, 99)[1], 0)
        else:
            for later in {price, min(price + 1, 99), 99}:
                self.assertEqual(uses(machine, tree, number, later), (0, 0))
            if price > 0:
                self.assertGreater(uses(machine, tree, number, price - 1)[1], 0)

    def test_trees_with_very_many_covers(self):
        """Forty nodes, 24 instructions and 12 conversions."""
        bent = 0
        for seed in range(6):
            dice = chance(seed)
            machine = machine_for(dice, (0, 1, 2), 2 + seed % 3, 24, 12, 20)
            tree = ((0,), (0,), (2, 0, 1), (2, 2, 0), (2, 3, 2), (2, 3, 4), (2, 5, 4))
            tree = tree + tuple([(1, at) for at in range(6, 6 + 40 - nodes(machine[0], tree))])
            self.assertEqual(nodes(machine[0], tree), 40)
            self.assertGreater(sum([many for price, many in spectrum(machine, tree)]), 10**9)
            for number in list(numbers_of(machine))[::9]:
                bent += len(self.check_facts(machine, tree, number)) > 2
        self.assertGreater(bent, 5)

    def test_many_uses(self):
        """Each of forty nodes can be done by one instruction or by another one."""
        machine = ((0, 1), 1, ((0, 0, (), 3), (0, 1, (0,), 4), (0, 1, (0,), 9)), ())
        tree = chain(1, 40)
        self.assertEqual(turns(machine, tree, 1), ((0, 3), (9, 354), (99, 354)))
        self.assertEqual(uses(machine, tree, 1, 8), (39, 39))
        self.assertEqual(uses(machine, tree, 1, 9), (0, 39))
        self.assertEqual(uses(machine, tree, 1, 10), (0, 0))
        self.assertEqual(given_up(machine, tree, 1), 10)
        self.assertEqual(turns(machine, tree, 2), ((0, 3), (4, 159), (99, 159)))

    def test_many_turns(self):
        """A part is taken over by other instructions at many different prices."""
        machine = ((0, 0, 0, 0, 2), 1, ((0, 0, (), 1), (0, 1, (), 2), (0, 2, (), 7), (0, 3, (), 11), (0, 4, (0, 0), 0)),
                   ())
        machine = machine[:1] + (2,) + (machine[2] + tuple([(1, leaf, (), 0) for leaf in range(4)]), ((1, 0, 20),))
        tree = ((0,), (1,), (2,), (3,), (4, 0, 1), (4, 2, 3), (4, 4, 5))
        told = turns(machine, tree, 9)
        self.assertEqual(told, ((0, 0), (1, 4), (2, 7), (7, 17), (11, 21), (99, 21)))
        for price, expected in ((0, (4, 4)), (1, (3, 4)), (2, (2, 3)), (6, (2, 2)), (7, (1, 2)), (11, (0, 1)), (12, (0, 0))):
            self.assertEqual(uses(machine, tree, 9, price), expected)
        self.assertEqual(given_up(machine, tree, 9), 12)


class Limits(unittest.TestCase):
    def too_many(self, call, amount):
        with self.assertRaises(TooMany) as caught:
            call()
        self.assertEqual((caught.exception.amount, caught.exception.limit), (amount, 40))

    def test_40_and_41_nodes(self):
        for machine in (((0, 1, 2), 1, ((0, 0, (), 1), (0, 1, (0,), 1)), ()), WIDE, ((0, 1, 2), 3, ((1, 0, (), 1),), ())):
            for call in calls(machine, chain(1, 40), 0):
                call()
            for call in calls(machine, chain(1, 41), 0):
                self.too_many(call, 41)
            for call in calls(machine, doubled(2, 6), 0):
                self.too_many(call, 63)
            for call in calls(machine, doubled(2, 100), 0):
                self.too_many(call, 2**100 - 1)

    def test_nodes_that_are_not_needed(self):
        tree = doubled(2, 40) + ((0,), (1, 40))
        machine = ((0, 1, 2), 1, ((0, 0, (), 1), (0, 1, (0,), 1), (0, 2, (0, 0), 1)), ())
        self.assertEqual(turns(machine, tree, 1), ((0, 1), (99, 100)))
        self.assertEqual(turns(machine, tree, 2), ((0, 2), (99, 2)))
        self.assertEqual(uses(machine, tree, 2, 0), (0, 0))
        self.assertEqual(given_up(machine, tree, 2), 0)
        self.assertIsNone(given_up(machine, tree, 0))

    def test_prices(self):
        for price in (0, 99):
            self.assertEqual(uses(SMALL, LEAF, 0, price), (1, 1))
        for price in wrong_values() + [None, -1, 100, 101, True, False, "5", 5.0, (5,), [5], 10**20]:
            self.assertRaises(NoPrice, uses, NEAR, NEAR_TREE, 0, price)

    def test_order(self):
        long = chain(1, 41)
        machine = ((0, 1), 1, ((0, 0, (), 1), (0, 1, (0,), 1)), ())
        for number in (2, -1, None):
            for tree in (LEAF, long):
                for call in calls(machine, tree, number) + [lambda: uses(machine, tree, number, 100)]:
                    self.assertRaises(NoNumber, call)
        for price in (100, -1, None, True):
            self.assertRaises(NoPrice, uses, machine, long, 1, price)
        self.too_many(lambda: uses(machine, long, 1, 99), 41)
        for tree in ((), None, ((1,),), ((2, 0),), list(long)):
            for number in (0, 2, None):
                for call in calls(machine, tree, number) + [lambda: uses(machine, tree, number, 100)]:
                    self.assertRaises(NoTree, call)
        for call in calls(list(machine), (), None) + [lambda: uses((), None, -1, 100)]:
            self.assertRaises(NoMachine, call)


class WrongInputs(unittest.TestCase):
    def test_machines(self):
        for wrong in wrong_values() + [None, ()] + spoiled(SMALL):
            for call in calls(wrong, LEAF, 0):
                self.assertRaises(NoMachine, call)

    def test_trees(self):
        for wrong in wrong_values() + [None, (), LEAF[0], [LEAF], ((True,),), ((0,), (1, 0, False)), ((0,), (1, 0))]:
            for call in calls(NEAR, wrong, 0):
                self.assertRaises(NoTree, call)

    def test_numbers(self):
        for wrong in wrong_values() + [None, 5, -1, True, False, "0", (0,), 0.0, [0], {0: 0}]:
            for call in calls(NEAR, NEAR_TREE, wrong):
                self.assertRaises(NoNumber, call)
        for call in calls(((0,), 1, (), ()), LEAF, 0):
            self.assertRaises(NoNumber, call)

    def test_last_numbers(self):
        for call in calls(TWICE, LEAF, 3):
            call()
        for call in calls(TWICE, LEAF, 4):
            self.assertRaises(NoNumber, call)


if __name__ == "__main__":
    unittest.main()
