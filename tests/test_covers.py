import itertools
import unittest

from codepick.covers import cover_at, first_cover, is_cover, number_of, price_of, spectrum
from codepick.errors import NoCover, NoForm, NoMachine, NoNumber, NoTree, TooMany
from codepick.prices import prices
from codepick.trees import nodes, unspelled
from brute import Covers
from samples import (NEAR, NEAR_TREE, SMALL, WIDE, asked_twice, chain, chance, doubled, likeness, machine_for, part_at,
                     places, replaced, some_machine, some_tree, spoiled, unshared, wrong_values)

LEAF = ((0,),)

# All covers of the short session's tree, as they are numbered; the first one costs 1, the others 3.
NEAR_COVERS = (
    ((4, ()), (2, ()), (1, ()), (1, ()), (0, ())),
    ((2, ()), (3, ()), (0, ()), (0, ()), (1, ())),
    ((4, ()), (4, ()), (0, ()), (0, ()), (0, ())),
)
NEAR_COVER = NEAR_COVERS[0]
# Ways of none, one, two and three conversions lead to form 0, and conversions lead in circles.
RINGS = (
    (0, 1, 2), 4,
    ((0, 0, (), 4), (3, 0, (), 0), (1, 0, (), 2), (2, 1, (0,), 1), (0, 2, (3, 0), 0), (3, 0, (), 0)),
    ((3, 2, 1), (2, 1, 1), (1, 0, 1), (0, 3, 1), (1, 2, 0), (2, 1, 1), (3, 0, 3)),
)
# 24 instructions and 12 conversions, with which covers are as many and as dear as can be.
MANY = (
    (0, 2, 1), 4,
    tuple([(3, 1, arguments, 20 - sum(arguments) // 3) for arguments in itertools.product(range(4), repeat=2)])
    + tuple([(form, 0, (), 20) for form in range(4)])
    + tuple([(3, 2, (form,), 20) for form in range(4)]),
    ((3, 2, 20), (3, 2, 19), (3, 2, 18), (3, 2, 17), (2, 1, 20), (2, 1, 16), (2, 1, 15), (2, 1, 14),
     (1, 0, 20), (1, 0, 13), (1, 0, 12), (1, 0, 11)),
)


def wide_tree(operators):
    """A tree of so many binary operators, numbered 1, that is as flat as can be."""
    if operators == 0:
        return (0,)
    half = (operators - 1) // 2
    return (1,) + wide_tree(half) + wide_tree(operators - 1 - half)


def calls(machine, tree, *form):
    """All functions of the file, with arguments that are right for NEAR and its tree."""
    return [
        lambda: first_cover(machine, tree, *form),
        lambda: spectrum(machine, tree, *form),
        lambda: is_cover(machine, tree, NEAR_COVER, *form),
        lambda: price_of(machine, tree, NEAR_COVER, *form),
        lambda: number_of(machine, tree, NEAR_COVER, *form),
        lambda: cover_at(machine, tree, 0, *form),
    ]


def wrong_covers(cover):
    """Values that are no covers where the given one is."""
    found = wrong_values() + spoiled(cover) + [
        None, 0, (), cover[:-1], cover + cover[-1:], cover * 2, list(cover), [list(pair) for pair in cover], cover[0],
        (cover,), dict(cover), {"cover": cover}, NoCover(), tuple([(number,) for number, way in cover]),
    ]
    for at, (number, way) in enumerate(cover):
        for pair in (
            (number, list(way)), [number, way], (number, None), (number, way, ()), (number,), (number, way + (99,)),
            (99, way), (-1, way), (True, way), (number, (True,)), (number, 0), (str(number), way), (None, way),
            (number, (way,)), {number: way}, (number, {}), (number, way + (0,)), (number, NoCover()),
        ):
            found.append(replaced(cover, (at,), pair))
    return found


class AgainstAllCovers(unittest.TestCase):
    def test_small_machines(self):
        seen = alike = 0
        for seed in range(150):
            machine = some_machine(chance(seed), 6, 4)
            if seed < 60:
                machine = machine_for(chance(seed), (0, 1, 2), 1 + seed // 15, 8, 4)
            covers = Covers(machine)
            for number in range(3):
                tree = some_tree(chance(1000 * seed + number), machine[0], 4)
                for form in range(machine[1]):
                    if sum([many for price, many in spectrum(machine, tree, form)]) <= 150:
                        found = covers.in_order(unshared(tree), form)
                        self.compare(machine, tree, form, found)
                        seen += len(found)
                        alike += len(found) - len({price for cover, price in found})
        self.assertGreater(seen, 3000)
        self.assertGreater(alike, 1500)

    def compare(self, machine, tree, form, found):
        first = found[0][0] if found else None
        self.assertEqual(asked_twice(self, first_cover, machine, tree, form), first)
        costs = [price for cover, price in found]
        expected = tuple([(price, costs.count(price)) for price in sorted(set(costs))])
        self.assertEqual(asked_twice(self, spectrum, machine, tree, form), expected)
        for number, (cover, price) in enumerate(found):
            self.assertIs(is_cover(machine, tree, cover, form), True)
            self.assertEqual(price_of(machine, tree, cover, form), price)
            self.assertEqual(cover_at(machine, tree, number, form), cover)
            self.assertEqual(number_of(machine, tree, cover, form), number)
        self.assertRaises(NoNumber, cover_at, machine, tree, len(found), form)
        if form == 0:
            self.assertEqual(first_cover(machine, tree), first)
            self.assertEqual(spectrum(machine, tree), expected)

    def test_what_is_a_cover(self):
        """Every tuple of pairs of an instruction and a way is tried."""
        for machine, tree in ((RINGS, LEAF), (RINGS, chain(1, 2)), (NEAR, NEAR_TREE[:2])):
            first = len(machine[2])
            numbers = range(first, first + len(machine[3]))
            ways = [way for many in range(4) for way in itertools.permutations(numbers, many)]
            pairs = list(itertools.product(range(first), ways))
            if len(tree) > 1:
                pairs = [pair for pair in pairs if len(pair[1]) < 2]
            for form in range(machine[1]):
                expected = {cover for cover, price in Covers(machine).all_of(unshared(tree), form)}
                for cover in itertools.product(pairs, repeat=nodes(machine[0], tree)):
                    self.assertIs(is_cover(machine, tree, cover, form), cover in expected)


class FirstCover(unittest.TestCase):
    def test_short_session(self):
        self.assertEqual(asked_twice(self, first_cover, NEAR, NEAR_TREE), NEAR_COVER)
        self.assertEqual(first_cover(NEAR, NEAR_TREE, 1), ((3, ()), (2, ()), (1, ()), (1, ()), (0, ())))

    def test_by_name(self):
        self.assertEqual(first_cover(machine=NEAR, tree=NEAR_TREE), NEAR_COVER)
        self.assertEqual(first_cover(form=0, tree=NEAR_TREE, machine=NEAR), NEAR_COVER)

    def test_the_first_of_equal_prices(self):
        for machine, cover in (
            (((0,), 1, ((0, 0, (), 3), (0, 0, (), 2), (0, 0, (), 2)), ()), ((1, ()),)),
            # The numbers of the conversions go on from those of the instructions.
            (((0,), 2, ((1, 0, (), 1),), ((1, 0, 2), (1, 0, 1), (1, 0, 1))), ((0, (2,)),)),
            # A way that is shorter is not the first one: tuples are compared from the start on.
            (((0,), 3, ((2, 0, (), 1),), ((2, 1, 1), (1, 0, 1), (2, 0, 2))), ((0, (1, 2)),)),
            (((0,), 3, ((2, 0, (), 1),), ((2, 0, 2), (2, 1, 1), (1, 0, 1))), ((0, (1,)),)),
            # The way counts only if the instruction is the same one.
            (((0,), 2, ((1, 0, (), 1), (0, 0, (), 2)), ((1, 0, 1),)), ((0, (2,)),)),
            (((0,), 2, ((0, 0, (), 1), (0, 0, (), 1)), ((0, 1, 0), (1, 0, 0))), ((0, ()),)),
        ):
            self.assertEqual(first_cover(machine, LEAF), cover)

    def test_prefix_order(self):
        machine = ((0, 0, 2), 1, ((0, 0, (), 0), (0, 1, (), 0), (0, 2, (0, 0), 0)), ())
        tree = ((0,), (1,), (2, 0, 1), (2, 1, 2))
        self.assertEqual(first_cover(machine, tree), ((2, ()), (1, ()), (2, ()), (0, ()), (1, ())))

    def test_ways_of_no_conversion_to_three(self):
        self.assertEqual(first_cover(RINGS, LEAF, 3), ((1, ()),))
        self.assertEqual(first_cover(RINGS, LEAF, 2), ((1, (6,)),))
        self.assertEqual(first_cover(RINGS, LEAF, 1), ((1, (6, 7)),))
        self.assertEqual(first_cover(RINGS, LEAF, 0), ((1, (6, 7, 8)),))
        self.assertEqual(first_cover(RINGS, chain(1, 2), 3), ((3, (7, 8, 9)), (1, (6, 7, 8))))

    def test_no_cover(self):
        self.assertIsNone(asked_twice(self, first_cover, ((0, 1), 2, ((0, 0, (), 1),), ()), LEAF, 1))
        self.assertIsNone(first_cover(((0, 1), 2, ((0, 0, (), 1),), ()), chain(1, 2)))
        self.assertIsNone(first_cover(((0,), 1, (), ()), LEAF))
        self.assertIsNone(first_cover(((0,), 4, (), ((0, 1, 0), (1, 0, 0))), LEAF, 1))

    def test_parts_named_twice(self):
        self.assertEqual(first_cover(NEAR, ((0,), (1, 0, 0), (1, 1, 1))), ((4, ()),) + ((2, ()), (1, ()), (1, ())) * 2)
        machine = ((0, 2), 1, ((0, 0, (), 0), (0, 1, (0, 0), 0)), ())
        cover = first_cover(machine, doubled(1, 5))
        self.assertEqual(len(cover), 31)

    def test_equal_parts_in_other_forms(self):
        machine = ((0, 2), 2, ((0, 0, (), 5), (1, 0, (), 3), (0, 1, (1, 0), 0)), ())
        self.assertEqual(first_cover(machine, ((0,), (1, 0, 0))), ((2, ()), (1, ()), (0, ())))

    def test_parts_of_a_first_cover_are_first_covers(self):
        parts = 0
        for machine, tree, form in self.some_covered():
            cover = first_cover(machine, tree, form)
            at = 1
            for part, wanted in zip(tree[-1][1:], machine[2][cover[0][0]][2]):
                end = at + nodes(machine[0], tree[:part + 1])
                self.assertEqual(cover[at:end], first_cover(machine, tree[:part + 1], wanted))
                at = end
                parts += 1
            self.assertEqual(at, len(cover))
        self.assertGreater(parts, 300)

    def some_covered(self):
        """Machines, trees and forms for which there is a cover."""
        for seed in range(200):
            machine = machine_for(chance(seed), (0, 1, 2), 1 + seed // 50, 4 + seed // 10, seed // 17)
            tree = some_tree(chance(seed + 7), machine[0], 7)
            if nodes(machine[0], tree) <= 40:
                for form, price in enumerate(prices(machine, tree)):
                    if price is None:
                        self.assertIsNone(first_cover(machine, tree, form))
                        self.assertEqual(spectrum(machine, tree, form), ())
                    else:
                        yield machine, tree, form

    def test_a_first_cover_has_the_least_price(self):
        for machine, tree, form in self.some_covered():
            cover = first_cover(machine, tree, form)
            price = prices(machine, tree)[form]
            self.assertEqual(price_of(machine, tree, cover, form), price)
            self.assertEqual(number_of(machine, tree, cover, form), 0)
            self.assertEqual(spectrum(machine, tree, form)[0][0], price)


class IsCover(unittest.TestCase):
    def test_the_price_does_not_matter(self):
        machine = ((0,), 1, ((0, 0, (), 3), (0, 0, (), 0)), ())
        self.assertIs(is_cover(machine, LEAF, ((0, ()),)), True)
        self.assertIs(is_cover(machine, LEAF, ((1, ()),)), True)
        self.assertIs(is_cover(machine, LEAF, ((2, ()),)), False)

    def test_by_name(self):
        self.assertIs(is_cover(machine=NEAR, tree=NEAR_TREE, thing=NEAR_COVER), True)
        self.assertIs(is_cover(NEAR, NEAR_TREE, form=1, thing=NEAR_COVER), False)
        self.assertEqual(price_of(form=0, cover=NEAR_COVER, tree=NEAR_TREE, machine=NEAR), 1)

    def test_no_form_twice(self):
        # RINGS: (3, 2), (2, 1), (1, 0), (0, 3), (1, 2), (2, 1), (3, 0) are numbered from 6 on.
        for cover, form, answer in (
            (((1, ()),), 3, True),
            (((1, (6,)),), 2, True),
            (((1, (6, 7)),), 1, True),
            (((1, (6, 11)),), 1, True),
            (((1, (6, 7, 8)),), 0, True),
            (((1, (12,)),), 0, True),
            (((5, (12,)),), 0, True),
            # Back to the first form, or to one between.
            (((1, (6, 7, 8, 9)),), 3, False),
            (((1, (12, 9)),), 3, False),
            (((1, (12, 9, 12)),), 0, False),
            (((1, (6, 7, 10)),), 2, False),
            (((1, (6, 7, 10, 7, 8)),), 0, False),
            (((1, (6, 7, 10, 11, 8)),), 0, False),
            # Conversions that do not lead on from one another, or not to the form wanted.
            (((1, (7, 8)),), 0, False),
            (((1, (6, 8)),), 0, False),
            (((1, (8, 7, 6)),), 0, False),
            (((1, (6, 7)),), 0, False),
            (((1, ()),), 0, False),
            (((0, ()),), 0, True),
            (((0, (9,)),), 3, True),
            (((0, (9, 12)),), 0, False),
            # Numbers of instructions in place of conversions, and the other way round.
            (((1, (0,)),), 2, False),
            (((6, ()),), 3, False),
        ):
            self.assertIs(asked_twice(self, is_cover, RINGS, LEAF, cover, form), answer, cover)

    def test_the_operator_and_the_forms_of_the_arguments(self):
        tree = chain(1, 2)
        self.assertIs(is_cover(RINGS, tree, ((3, (7, 8)), (0, ()))), True)
        self.assertIs(is_cover(RINGS, tree, ((3, (7, 8)), (1, (12,)))), True)
        self.assertIs(is_cover(RINGS, tree, ((3, (7, 8)), (1, ()))), False)
        self.assertIs(is_cover(RINGS, tree, ((0, ()), (0, ()))), False)
        self.assertIs(is_cover(RINGS, tree, ((3, (7, 8)), (3, (7, 8)))), False)
        both = ((0,), (2, 0, 0))
        self.assertIs(is_cover(RINGS, both, ((4, ()), (1, ()), (0, ()))), True)
        self.assertIs(is_cover(RINGS, both, ((4, ()), (0, ()), (1, ()))), False)

    def test_equal_ones_have_numbers_of_their_own(self):
        machine = ((0,), 2, ((1, 0, (), 1),) * 24, ((1, 0, 2),) * 12)
        for number in range(24):
            for way in range(24, 36):
                self.assertIs(is_cover(machine, LEAF, ((number, (way,)),)), True)
        self.assertEqual(spectrum(machine, LEAF), ((3, 288),))
        self.assertIs(is_cover(machine, LEAF, ((24, (24,)),)), False)
        self.assertIs(is_cover(machine, LEAF, ((0, (23,)),)), False)
        self.assertIs(is_cover(machine, LEAF, ((0, (36,)),)), False)

    def test_as_many_pairs_as_nodes(self):
        for cover in (NEAR_COVER[:4], NEAR_COVER + ((0, ()),), (), NEAR_COVER[:1], NEAR_COVER[1:]):
            self.assertIs(is_cover(NEAR, NEAR_TREE, cover), False)
            self.assertRaises(NoCover, price_of, NEAR, NEAR_TREE, cover)

    def test_any_value(self):
        for machine, tree, form in ((NEAR, NEAR_TREE, 0), (RINGS, LEAF, 0), (RINGS, ((0,), (1, 0), (2, 0, 1)), 1)):
            cover = first_cover(machine, tree, form)
            self.assertIs(is_cover(machine, tree, cover, form), True)
            for thing in wrong_covers(cover):
                self.assertIs(is_cover(machine, tree, thing, form), False, thing)
                self.assertRaises(NoCover, price_of, machine, tree, thing, form)
                self.assertRaises(NoCover, number_of, machine, tree, thing, form)

    def test_any_value_where_there_is_no_cover(self):
        for thing in wrong_values() + [None, (), ((0, ()),), ((),), (((), ()),)]:
            self.assertIs(asked_twice(self, is_cover, ((0,), 1, (), ()), LEAF, thing), False)
            self.assertRaises(NoCover, price_of, ((0,), 1, (), ()), LEAF, thing)

    def test_prices_are_those_of_all_choices(self):
        self.assertEqual(price_of(NEAR, NEAR_TREE, ((4, ()), (4, ()), (0, ()), (0, ()), (0, ()))), 3)
        self.assertEqual(price_of(RINGS, LEAF, ((0, ()),)), 4)
        self.assertEqual(price_of(RINGS, LEAF, ((1, (6, 7, 8)),)), 3)
        self.assertEqual(asked_twice(self, price_of, RINGS, chain(1, 2), ((3, (11, 8)), (2, (8,)))), 6)


class Spectrum(unittest.TestCase):
    def test_short_session(self):
        self.assertEqual(asked_twice(self, spectrum, NEAR, NEAR_TREE), ((1, 1), (3, 2)))
        self.assertEqual(spectrum(NEAR, NEAR_TREE, 1), ((2, 1), (4, 1)))
        self.assertEqual(spectrum(tree=NEAR_TREE, form=1, machine=NEAR), ((2, 1), (4, 1)))

    def test_no_cover(self):
        self.assertEqual(spectrum(((0,), 1, (), ()), LEAF), ())
        self.assertEqual(spectrum(((0,), 2, ((0, 0, (), 1),), ()), LEAF, 1), ())

    def test_prices_between_which_there_is_none(self):
        machine = ((0, 2), 1, ((0, 0, (), 0), (0, 0, (), 20), (0, 1, (0, 0), 7)), ())
        self.assertEqual(spectrum(machine, ((0,), (1, 0, 0))), ((7, 1), (27, 2), (47, 1)))

    def test_far_too_many_to_be_gone_through(self):
        machine = ((0, 1), 1, ((0, 0, (), 1),) * 12 + ((0, 1, (0,), 2),) * 12, ())
        self.assertEqual(spectrum(machine, chain(1, 40)), ((1 + 2 * 39, 12**40),))
        machine = ((0, 1), 1, ((0, 0, (), 0), (0, 1, (0,), 0), (0, 1, (0,), 1)), ())
        found = spectrum(machine, chain(1, 40))
        self.assertEqual([price for price, many in found], list(range(40)))
        self.assertEqual(sum([many for price, many in found]), 2**39)
        self.assertEqual(found[2], (2, 39 * 38 // 2))


class Numbers(unittest.TestCase):
    def test_short_session(self):
        for number, cover in enumerate(NEAR_COVERS):
            self.assertEqual(asked_twice(self, cover_at, NEAR, NEAR_TREE, number), cover)
            self.assertEqual(asked_twice(self, number_of, NEAR, NEAR_TREE, cover), number)
        self.assertRaises(NoNumber, cover_at, NEAR, NEAR_TREE, 3)

    def test_by_name(self):
        self.assertEqual(cover_at(machine=NEAR, tree=NEAR_TREE, number=0, form=0), NEAR_COVER)
        self.assertEqual(number_of(form=0, cover=NEAR_COVER, tree=NEAR_TREE, machine=NEAR), 0)

    def test_the_first_and_the_last_number_and_one_beyond(self):
        for machine, tree in ((NEAR, NEAR_TREE), (RINGS, ((0,), (1, 0), (2, 0, 1))), (MANY, LEAF)):
            for form in range(machine[1]):
                amount = sum([many for price, many in spectrum(machine, tree, form)])
                self.assertEqual(cover_at(machine, tree, 0, form), first_cover(machine, tree, form))
                last = cover_at(machine, tree, amount - 1, form)
                self.assertEqual(price_of(machine, tree, last, form), spectrum(machine, tree, form)[-1][0])
                self.assertEqual(number_of(machine, tree, last, form), amount - 1)
                for number in (amount, amount + 1, 10**20 - 1, 10**200, -1, -amount):
                    self.assertRaises(NoNumber, cover_at, machine, tree, number, form)

    def test_no_number(self):
        for number in wrong_values() + [None, "1", (0,), [0], {0: 0}, (), NoNumber()]:
            self.assertRaises(NoNumber, cover_at, NEAR, NEAR_TREE, number)
        self.assertRaises(NoNumber, cover_at, ((0,), 1, (), ()), LEAF, 0)

    def test_by_price_first(self):
        machine = ((0,), 1, ((0, 0, (), 2), (0, 0, (), 1), (0, 0, (), 2), (0, 0, (), 1)), ())
        self.assertEqual([cover_at(machine, LEAF, number)[0][0] for number in range(4)], [1, 3, 0, 2])
        self.assertEqual([number_of(machine, LEAF, ((number, ()),)) for number in range(4)], [2, 0, 3, 1])

    def test_ways_as_tuples_compare(self):
        machine = ((0,), 3, ((2, 0, (), 0), (2, 0, (), 0)), ((2, 1, 0), (2, 0, 0), (1, 0, 0)))
        found = [cover_at(machine, LEAF, number)[0] for number in range(4)]
        self.assertEqual(found, [(0, (2, 4)), (0, (3,)), (1, (2, 4)), (1, (3,))])

    def test_the_greatest_machine(self):
        """There are about 10**79 covers, and as many prices as can be."""
        for tree, parts in ((chain(2, 40), (0, 1, 2, 3, 4, 5, 6)), (unspelled(MANY[0], (1, 0) * 19 + (0,)), (0, 4, 7)),
                            (unspelled(MANY[0], (2,) + wide_tree(19)), (3,))):
            found = spectrum(MANY, tree)
            self.assertGreater(len(found), 2000)
            amount = sum([many for price, many in found])
            self.assertGreater(amount, 10**70)
            self.assertEqual(prices(MANY, tree)[0], found[0][0])
            self.assertRaises(NoNumber, cover_at, MANY, tree, amount)
            for part in parts:
                number = min(amount * part // 7, amount - 1)
                cover = cover_at(MANY, tree, number)
                self.assertEqual(number_of(MANY, tree, cover), number)
                self.assertIs(is_cover(MANY, tree, cover), True)
        # What is next to one another in number is so in order.
        tree = chain(2, 40)
        self.assertEqual(first_cover(MANY, tree), cover_at(MANY, tree, 0))
        covers = [cover_at(MANY, tree, 10**70 + more) for more in range(20)]
        keys = [(price_of(MANY, tree, cover), cover) for cover in covers]
        self.assertEqual(keys, sorted(keys))
        self.assertEqual(len(set(keys)), 20)


class Refusals(unittest.TestCase):
    def test_no_machine(self):
        for machine in wrong_values() + [None, 0, (), NEAR[:3], list(NEAR)]:
            for call in calls(machine, NEAR_TREE) + calls(machine, None, None):
                self.assertRaises(NoMachine, call)

    def test_no_tree(self):
        for tree in wrong_values() + [None, 0, (), ((2,),), ((0,), (1, 0)), list(NEAR_TREE), ((0,), (1, True, 0))]:
            for call in calls(NEAR, tree) + calls(NEAR, tree, None):
                self.assertRaises(NoTree, call)
        for call in calls(SMALL, NEAR_TREE, 7):
            self.assertRaises(NoTree, call)

    def test_no_form(self):
        great = doubled(1, 100)
        for form in wrong_values() + [None, 2, "0", (0,), [0], {0: 0}, 10**20 - 1, NoForm()]:
            for call in calls(NEAR, NEAR_TREE, form) + calls(NEAR, great, form):
                self.assertRaises(NoForm, call)
        for call in calls(SMALL, LEAF, 1):
            self.assertRaises(NoForm, call)
        self.assertEqual(first_cover(WIDE, LEAF, 3), ((0, (4,)),))
        self.assertRaises(NoForm, first_cover, WIDE, LEAF, 4)

    def test_40_and_41_nodes(self):
        machine = ((0, 1, 2), 1, ((0, 0, (), 1), (0, 1, (0,), 2), (0, 2, (0, 0), 3)), ())
        cover = ((1, ()),) * 39 + ((0, ()),)
        tree = chain(1, 40)
        self.assertEqual(first_cover(machine, tree), cover)
        self.assertEqual(spectrum(machine, tree), ((79, 1),))
        self.assertIs(is_cover(machine, tree, cover), True)
        self.assertEqual(price_of(machine, tree, cover), 79)
        self.assertEqual(number_of(machine, tree, cover), 0)
        self.assertEqual(cover_at(machine, tree, 0), cover)
        # Of 41 nodes, however they are written, and of very many.
        for tree, amount in ((chain(1, 41), 41), (doubled(2, 5) + ((1, 4), (2, 5, 2), (1, 6)), 41),
                             (doubled(2, 100), 2**100 - 1), (chain(1, 100), 100)):
            for call in calls(machine, tree):
                with self.assertRaises(TooMany) as raised:
                    call()
                self.assertEqual((raised.exception.amount, raised.exception.limit), (amount, 40))

    def test_nodes_that_are_not_needed_do_not_count(self):
        tree = doubled(1, 98) + NEAR_TREE[:1] + ((1, 98, 98), (1, 99, 98))
        self.assertEqual(first_cover(NEAR, tree), NEAR_COVER)
        self.assertEqual(spectrum(NEAR, tree), ((1, 1), (3, 2)))
        self.assertEqual(cover_at(NEAR, tree, 1), NEAR_COVERS[1])
        self.assertEqual(number_of(NEAR, tree, NEAR_COVERS[1]), 1)
        self.assertIs(is_cover(NEAR, tree, NEAR_COVER), True)

    def test_too_many_comes_ahead_of_covers_and_numbers(self):
        great = chain(1, 41)
        machine = ((0, 1), 1, (), ())
        for thing in (None, (), 0, True):
            self.assertRaises(TooMany, is_cover, machine, great, thing)
            self.assertRaises(TooMany, price_of, machine, great, thing)
            self.assertRaises(TooMany, number_of, machine, great, thing)
        for number in (None, -1, True, 10**20 - 1):
            self.assertRaises(TooMany, cover_at, machine, great, number)

    def test_bools_are_no_integers(self):
        machine = ((0,), 2, ((0, 0, (), 1), (0, 0, (), 1), (1, 0, (), 1)), ())
        for place in places(((0, ()),)):
            part = part_at(((0, ()),), place)
            self.assertIs(is_cover(machine, LEAF, replaced(((0, ()),), place, likeness(part))), False)
        self.assertIs(is_cover(machine, LEAF, ((1, ()),)), True)
        self.assertIs(is_cover(machine, LEAF, ((True, ()),)), False)
        self.assertRaises(NoForm, first_cover, machine, LEAF, True)
        self.assertRaises(NoForm, first_cover, machine, LEAF, False)
        self.assertRaises(NoNumber, cover_at, machine, LEAF, True)
        self.assertRaises(NoNumber, cover_at, machine, LEAF, False)
        way = ((0,), 2, ((1, 0, (), 1),), ((1, 0, 1),))
        self.assertIs(is_cover(way, LEAF, ((0, (1,)),)), True)
        self.assertIs(is_cover(way, LEAF, ((0, (True,)),)), False)


if __name__ == "__main__":
    unittest.main()
