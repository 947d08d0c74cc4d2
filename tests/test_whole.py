"""What the document says over the whole program: its short session, what holds, and what modules say of one another."""

import doctest
import itertools
import os
import unittest

from codepick.alike import compared, gap
from codepick.chooser import state_tree, states
from codepick.classes import classes
from codepick.contexts import goes, put
from codepick.counting import by_state, extremes, total
from codepick.covers import first_cover
from codepick.endless import finite
from codepick.errors import Endless, TooMany
from codepick.needless import needing, needless, never_used, shows_needing, together
from codepick.prices import prices, relative
from codepick.readers import Keeping
from codepick.texts import machine_text, read_machine, read_tree, tree_text
from codepick.trees import nodes, spelled, trimmed, unspelled
from codepick.turning import given_up, turns, uses
from samples import NEAR, chance, is_small, machine_for, numbers_of, reduced, repriced, some_tree, varied

SESSION = """
>>> from codepick.prices import prices
>>> from codepick.chooser import states
>>> from codepick.endless import finite
>>> from codepick.needless import needless
>>> near = ((0, 2), 2, ((0, 0, (), 1), (1, 0, (), 0), (0, 1, (1, 1), 0), (1, 1, (0, 0), 1), (0, 1, (0, 0), 0)), ())
>>> tree = ((0,), (1, 0, 0), (1, 1, 0))
>>> prices(near, tree)
(1, 2)
>>> states(near)
((0, 1), (0, 3), (1, 0))
>>> finite(near)
('finite', 3)
>>> needless(near)
(3,)
>>> finite(near[:2] + (near[2][:4],) + near[3:])[0]
'endless'
"""
README = os.path.join(os.path.dirname(os.path.dirname(os.path.abspath(__file__))), "README.md")
ARITIES = (0, 0, 1, 2)


def machines(amount, most=3):
    """Machines with at most 40 states, with 1 to 4 forms."""
    found = [NEAR]
    for seed in range(amount):
        dice = chance(seed)
        machine = machine_for(dice, ARITIES, 1 + seed % 4, dice.randint(4, 12), dice.randint(0, 6), most)
        if is_small(machine):
            found.append(machine)
    return found


def price_of_number(machine, number):
    return (machine[2] + machine[3])[number][-1]


def is_at_least(price, other):
    """Whether a price is not below another one, where None is above all."""
    return price is None or (other is not None and price >= other)


class Told(unittest.TestCase):
    def run_examples(self, text, name):
        test = doctest.DocTestParser().get_doctest(text, {}, name, None, 0)
        self.assertGreater(len(test.examples), 0)
        runner = doctest.DocTestRunner(verbose=False)
        told = []
        result = runner.run(test, out=told.append)
        self.assertEqual((result.failed, "".join(told)), (0, ""))

    def test_short_session(self):
        self.run_examples(SESSION, "session")

    def test_readme(self):
        with open(README, encoding="utf-8") as file:
            # What stands behind an example ends where the text of the page goes on.
            self.run_examples(file.read().replace("```\n", "\n"), "README.md")


class Holds(unittest.TestCase):
    def test_parts_of_a_first_cover(self):
        """They are first covers of the parts in the forms wanted."""
        seen = 0
        for at, machine in enumerate(machines(80)):
            tree = trimmed(some_tree(chance(at), machine[0], 5))
            if nodes(machine[0], tree) > 40:
                continue
            for form in range(machine[1]):
                cover = first_cover(machine, tree, form)
                if cover is not None:
                    seen += self.check_parts(machine, tree, cover)
        self.assertGreater(seen, 60)

    def check_parts(self, machine, tree, cover):
        wanted = machine[2][cover[0][0]][2]
        start = 1
        for part, form in zip(tree[-1][1:], wanted):
            inner = tree[:part + 1]
            end = start + nodes(machine[0], inner)
            self.assertEqual(first_cover(machine, inner, form), cover[start:end])
            start = end
        self.assertEqual(start, len(cover))
        return len(wanted)

    def test_two_forms_that_can_be_converted(self):
        for seed in range(60):
            dice = chance(seed)
            machine = machine_for(dice, (0, 1, 2), 2, dice.randint(0, 12), 0, 20)
            there, back = dice.randint(0, 20), dice.randint(0, 20)
            machine = machine[:3] + (((0, 1, there), (1, 0, back)),)
            word, far = finite(machine)
            self.assertEqual(word, "finite")
            self.assertLessEqual(far, max(there, back))

    def test_all_prices_times_an_integer(self):
        for machine in machines(60, 4):
            for times in (1, 2, 5):
                self.assertEqual(len(states(repriced(machine, lambda at, price: price * times))), len(states(machine)))

    def test_gaps_of_three(self):
        seen = 0
        for seed in range(200):
            dice = chance(seed)
            one = machine_for(dice, (0, 0, 2), 1 + seed % 2, 8, seed % 2 * 2, 3)
            # With other prices alone, goal prices are in the same places.
            other = repriced(one, lambda at, price: dice.randint(0, 4))
            third = repriced(one, lambda at, price: dice.randint(0, 4))
            try:
                whole, first, second = gap(one, third), gap(one, other), gap(other, third)
            except (Endless, TooMany):
                continue
            if whole is not None:
                for end in (0, 1):
                    if None not in (first[end], second[end]):
                        sign = 1 - 2 * end
                        self.assertIsNotNone(whole[end])
                        self.assertGreaterEqual(sign * whole[end], sign * (first[end] + second[end]))
                        seen += 1
        self.assertGreater(seen, 20)

    def test_a_machine_without_some_instructions(self):
        for at, machine in enumerate(machines(80)):
            dice = chance(at)
            numbers = dice.sample(list(numbers_of(machine)), min(3, len(numbers_of(machine))))
            tree = some_tree(dice, machine[0], 12)
            for price, other in zip(prices(reduced(machine, numbers), tree), prices(machine, tree)):
                self.assertIs(is_at_least(price, other), True)

    def test_needless_at_each_greater_price(self):
        seen = 0
        for machine in machines(60):
            for number in needless(machine):
                for more in (1, 3, 15):
                    dearer = repriced(machine, lambda at, price: price + more * (at == number))
                    if is_small(dearer):
                        self.assertIn(number, needless(dearer))
                        seen += 1
        self.assertGreater(seen, 200)


class Agree(unittest.TestCase):
    def test_needless_and_alike(self):
        """What can be left out together makes another machine that is alike."""
        seen = {True: 0, False: 0}
        for at, machine in enumerate(machines(80)):
            dice = chance(at)
            for many in (1, 2, 3):
                numbers = tuple(sorted(dice.sample(list(numbers_of(machine)), min(many, len(numbers_of(machine))))))
                try:
                    alike = compared(machine, reduced(machine, numbers)) == ("alike",)
                except (Endless, TooMany):
                    continue
                self.assertIs(together(machine, numbers), alike)
                seen[alike] += 1
        self.assertGreater(min(seen.values()), 40)

    def test_needless_and_turning(self):
        for at, machine in enumerate(machines(40)):
            tree = some_tree(chance(at), machine[0], 4)
            if nodes(machine[0], tree) > 40:
                continue
            goal = prices(machine, tree)[0]
            for number in numbers_of(machine):
                told = turns(machine, tree, number)
                own = price_of_number(machine, number)
                self.assertEqual(told == (), goal is None)
                if goal is None:
                    continue
                cover = first_cover(machine, tree)
                often = [made for first, way in cover for made in (first, *way)].count(number)
                fewest, most = uses(machine, tree, number, own)
                self.assertTrue(fewest <= often <= most)
                needed = fewest > 0
                self.assertIs(shows_needing(machine, number, tree), needed)
                if number in needless(machine):
                    self.assertEqual(told[-1][1], goal)
                if number in never_used(machine):
                    self.assertEqual((fewest, most), (0, 0))
                    self.assertLessEqual(given_up(machine, tree, number), own)

    def test_counting_and_states(self):
        for machine in machines(60):
            found = [by_state(machine, many) for many in range(1, 21)]
            everything = states(machine)
            reached = set().union(*found)
            self.assertLessEqual(reached, set(everything))
            for state in everything:
                many = nodes(machine[0], state_tree(machine, state))
                if many <= 20:
                    self.assertIn(state, found[many - 1])
            self.assertEqual(set(sum(classes(machine), ())), set(everything))
            for many in (1, 4, 9):
                told = extremes(machine, many)
                self.assertEqual(told is None, total(machine, many)[0] == 0)

    def test_readers_and_texts(self):
        for at, machine in enumerate(machines(60)):
            dice = chance(at)
            self.assertEqual(read_machine(machine_text(machine)), machine)
            tree = some_tree(dice, machine[0], 6)
            if nodes(machine[0], tree) > 200:
                continue
            again = unspelled(machine[0], spelled(machine[0], tree))
            keeping = Keeping(machine)
            # A tree that is written in postfix order is read as it is written.
            keeping.feed_all(*[node[0] for node in again])
            self.assertEqual(keeping.tree, again)
            self.assertEqual(read_tree(machine[0], tree_text(machine[0], keeping.tree)), again)
            self.assertEqual(keeping.prices, prices(machine, tree))
            self.assertEqual(keeping.state, relative(prices(machine, tree))[0])

    def test_contexts_and_states(self):
        # The first one has other operators.
        for machine in machines(30)[1:]:
            for state, other in itertools.islice(itertools.product(states(machine), repeat=2), 12):
                tree, sibling = state_tree(machine, state), state_tree(machine, other)
                context = ((3, 1, (sibling,)), (2, 0, ()))
                whole = put(machine[0], context, tree)
                reached, base = relative(prices(machine, whole))
                before = relative(prices(machine, tree))[1]
                growth = None if base is None else base - before
                self.assertEqual(goes(machine, context, state), (reached, growth))

    def test_needing_trees(self):
        for machine in machines(30):
            for number in numbers_of(machine):
                tree = needing(machine, number)
                if tree is not None:
                    without = prices(reduced(machine, (number,)), tree)[0]
                    goal = prices(machine, tree)[0]
                    self.assertIsNotNone(goal)
                    self.assertTrue(without is None or without > goal)

    def test_varied_machines(self):
        """Of machines that are alike, each tree's goal has the same price in counts, too."""
        seen = 0
        for at, machine in enumerate(machines(60)):
            other = varied(chance(at), machine)
            try:
                alike = compared(machine, other) == ("alike",)
            except (Endless, TooMany):
                continue
            if alike and is_small(other):
                for many in (1, 2, 5, 13):
                    self.assertEqual(total(machine, many), total(other, many))
                    self.assertEqual(extremes(machine, many), extremes(other, many))
                seen += 1
        self.assertGreater(seen, 10)


if __name__ == "__main__":
    unittest.main()
