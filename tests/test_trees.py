import unittest

from codepick.errors import NoArities, NoTree, TooMany, Unspelled
from codepick.trees import height, is_tree, nodes, same, spelled, unspelled
from samples import (NEAR, NEAR_TREE, asked_twice, chain, chance, deep, doubled, likeness, places, part_at, replaced,
                     some_tree, spoiled, unshared, wrong_values)

ARITIES = (0, 1, 2)
LEAF = ((0,),)


def count(nested):
    return 1 + sum([count(part) for part in nested[1:]])


def depth(nested):
    return 1 + max([0] + [depth(part) for part in nested[1:]])


def prefix(nested):
    found = (nested[0],)
    for part in nested[1:]:
        found += prefix(part)
    return found


def wrong_arities():
    return wrong_values() + [
        None, 0, 1, (), (3,), (0, 3), (-1, 0), (0, True), (0, False), (0, None), (0, "1"), (0, (1,)), [0, 2],
        (0, 1, 2, 0, 1, 2, 0), NEAR,
    ]


def wrong_trees():
    """Things that are no trees for ARITIES."""
    return wrong_values() + [
        None, 0, 1, (), (0,), (0, 0), ((),), ((1,),), ((0,), ()), ((0, 0),), ((2, 0),), ((0,), (2, 0)),
        ((0,), (1, 0, 0)), ((0,), (2, 0, 0, 0)), ((0,), (1,)), ((0,), (2,)), ((0,), (0, 0)),
        ((3,),), ((-1,),), ((0,), (3, 0)), ((0,), (-1, 0, 0)), ((0,), (-2, 0)), ((-3,),),
        ((1, 0),), ((2, 0, 0),), ((0,), (1, 1)), ((0,), (1, 2)), ((0,), (1, -1)), ((0,), (2, 0, 1)), ((0,), (2, 1, 0)),
        ((1, 1), (0,)), ((0,), (1, 2), (0,)),
        ((True,),), ((False,),), ((0,), (True, 0)), ((0,), (1, False)), ((0,), (0,), (1, True)), ((0,), (1, None)),
        ((0,), (1, "0")), ((0,), (1, (0,))), ((0,), [1, 0]), [(0,)], [[0]], ((0,), None), ((0,), 0), ((0,), "0"),
        ((3,), (0,)), ((1, 0), (0,)), ({0: 0},), ("0",),
    ]


class IsTree(unittest.TestCase):
    def test_ordinary_trees(self):
        for tree in (LEAF, NEAR_TREE, chain(1, 5), doubled(1, 4)):
            arities = NEAR[0] if tree == NEAR_TREE or tree == doubled(1, 4) else ARITIES
            self.assertIs(asked_twice(self, is_tree, arities, tree), True)
        for seed in range(200):
            self.assertIs(asked_twice(self, is_tree, ARITIES, some_tree(chance(seed), ARITIES, 12)), True)

    def test_by_name(self):
        self.assertIs(is_tree(arities=ARITIES, thing=LEAF), True)
        self.assertIs(is_tree(thing=None, arities=ARITIES), False)

    def test_any_value(self):
        for thing in wrong_trees() + [deep(tuple, 200)]:
            self.assertIs(asked_twice(self, is_tree, ARITIES, thing), False, thing)

    def test_something_wrong_at_each_place(self):
        for tree in (NEAR_TREE, doubled(1, 3), LEAF, ((0,), (0,), (1, 1, 0))):
            for thing in spoiled(tree):
                self.assertIs(asked_twice(self, is_tree, NEAR[0], thing), False)

    def test_edges_of_the_numbers(self):
        self.assertIs(is_tree(ARITIES, ((0,), (0,), (2, 0, 1))), True)
        self.assertIs(is_tree(ARITIES, ((0,), (0,), (2, 1, 1))), True)
        self.assertIs(is_tree(ARITIES, ((0,), (0,), (2, 1, 2))), False)
        self.assertIs(is_tree((0, 1, 2, 0, 1, 2), ((0,), (5, 0, 0))), True)
        self.assertIs(is_tree((0, 1, 2, 0, 1, 2), ((0,), (6, 0, 0))), False)

    def test_a_tree_for_some_arities_only(self):
        self.assertIs(is_tree((0, 2), NEAR_TREE), True)
        self.assertIs(is_tree((0, 1), NEAR_TREE), False)
        self.assertIs(is_tree((0,), NEAR_TREE), False)
        self.assertIs(is_tree((2, 2), NEAR_TREE), False)

    def test_no_tree_without_leaves(self):
        self.assertIs(is_tree((1,), ((0, 0),)), False)
        self.assertIs(is_tree((2,), ((0, 0, 0),)), False)

    def test_more_written_nodes_than_callers_have(self):
        self.assertIs(is_tree(ARITIES, chain(1, 100)), True)
        self.assertIs(is_tree(ARITIES, chain(1, 101)), True)
        self.assertIs(is_tree(ARITIES, unspelled(ARITIES, (1,) * 199 + (0,))), True)


class Refusals(unittest.TestCase):
    def test_no_arities(self):
        for arities in wrong_arities():
            for call in (
                lambda: is_tree(arities, LEAF), lambda: nodes(arities, LEAF), lambda: height(arities, LEAF),
                lambda: same(arities, LEAF, LEAF), lambda: spelled(arities, LEAF), lambda: unspelled(arities, (0,)),
            ):
                self.assertRaises(NoArities, call)

    def test_one_and_six_operators(self):
        for arities in ((0,), (0, 1, 2, 0, 1, 2)):
            self.assertIs(is_tree(arities, LEAF), True)
            self.assertEqual(nodes(arities, LEAF), 1)
            self.assertEqual(height(arities, LEAF), 1)
            self.assertIs(same(arities, LEAF, LEAF), True)
            self.assertEqual(spelled(arities, LEAF), (0,))
            self.assertEqual(unspelled(arities, (0,)), LEAF)

    def test_no_tree(self):
        for tree in wrong_trees():
            self.assertRaises(NoTree, nodes, ARITIES, tree)
            self.assertRaises(NoTree, height, ARITIES, tree)
            self.assertRaises(NoTree, spelled, ARITIES, tree)
            self.assertRaises(NoTree, same, ARITIES, tree, LEAF)
            self.assertRaises(NoTree, same, ARITIES, LEAF, tree)
            self.assertRaises(NoTree, same, ARITIES, tree, tree)

    def test_a_wrong_node_that_the_last_one_does_not_need(self):
        for tree in (((0,), (1, 5), (0,)), ((3,), (0,)), ((0,), (1, True), (0,))):
            self.assertRaises(NoTree, nodes, ARITIES, tree)
            self.assertRaises(NoTree, spelled, ARITIES, tree)

    def test_no_arities_comes_first(self):
        for arities in (None, (), (3,), (0, True), [0, 1], (0,) * 7):
            for thing in (None, (), ((9,),), [], doubled(1, 100), doubled(2, 100)):
                for function in (is_tree, nodes, height, spelled, unspelled):
                    self.assertRaises(NoArities, function, arities, thing)
                self.assertRaises(NoArities, same, arities, thing, None)
                self.assertRaises(NoArities, same, arities, None, thing)

    def test_no_tree_comes_before_too_many(self):
        self.assertRaises(NoTree, spelled, ARITIES, doubled(2, 60) + ((3,),))
        self.assertRaises(NoTree, spelled, ARITIES, ((True,),) + doubled(2, 60)[1:])
        self.assertRaises(NoTree, spelled, ARITIES, list(doubled(2, 60)))

    def test_refusals_change_nothing(self):
        arguments = ({"a": [1]}, [[0], (True, {})])
        before = repr(arguments)
        self.assertRaises(NoArities, nodes, *arguments)
        self.assertRaises(NoTree, nodes, ARITIES, arguments[1])
        self.assertRaises(Unspelled, unspelled, ARITIES, arguments[1])
        self.assertEqual(repr(arguments), before)


class Greatness(unittest.TestCase):
    def test_short_session(self):
        self.assertEqual(nodes(NEAR[0], NEAR_TREE), 5)
        self.assertEqual(height(NEAR[0], NEAR_TREE), 3)

    def test_one_node(self):
        self.assertEqual(asked_twice(self, nodes, ARITIES, LEAF), 1)
        self.assertEqual(asked_twice(self, height, ARITIES, LEAF), 1)

    def test_against_the_tree_itself(self):
        for seed in range(300):
            tree = some_tree(chance(seed), ARITIES, 8)
            self.assertEqual(asked_twice(self, nodes, ARITIES, tree), count(unshared(tree)))
            self.assertEqual(asked_twice(self, height, ARITIES, tree), depth(unshared(tree)))

    def test_by_name(self):
        self.assertEqual(nodes(arities=ARITIES, tree=chain(1, 3)), 3)
        self.assertEqual(height(tree=chain(1, 3), arities=ARITIES), 3)

    def test_unneeded_nodes(self):
        tree = chain(1, 90) + ((0,),)
        self.assertEqual(nodes(ARITIES, tree), 1)
        self.assertEqual(height(ARITIES, tree), 1)
        tree = ((0,), (1, 0), (1, 1), (1, 2), (2, 0, 0))
        self.assertEqual(nodes(ARITIES, tree), 3)
        self.assertEqual(height(ARITIES, tree), 2)

    def test_the_longest_path_is_on_either_side(self):
        self.assertEqual(height(ARITIES, ((0,), (1, 0), (1, 1), (2, 2, 0))), 4)
        self.assertEqual(height(ARITIES, ((0,), (1, 0), (1, 1), (2, 0, 2))), 4)

    def test_100_written_nodes(self):
        self.assertEqual(nodes(ARITIES, chain(1, 100)), 100)
        self.assertEqual(height(ARITIES, chain(1, 100)), 100)
        self.assertEqual(asked_twice(self, nodes, ARITIES, doubled(2, 100)), 2**100 - 1)
        self.assertEqual(asked_twice(self, height, ARITIES, doubled(2, 100)), 100)

    def test_each_node_names_the_two_before_it(self):
        tree = ((0,), (1, 0)) + tuple([(2, at, at + 1) for at in range(98)])
        counts = [1, 2]
        while len(counts) < 100:
            counts.append(1 + counts[-2] + counts[-1])
        self.assertEqual(nodes(ARITIES, tree), counts[-1])
        self.assertEqual(height(ARITIES, tree), 100)

    def test_deep_trees(self):
        self.assertEqual(height(ARITIES, chain(1, 3000)), 3000)
        self.assertEqual(nodes(ARITIES, doubled(2, 3000)), 2**3000 - 1)
        self.assertIs(same(ARITIES, doubled(2, 3000), doubled(2, 3000)), True)


class Same(unittest.TestCase):
    def same(self, one, other):
        answer = asked_twice(self, same, ARITIES, one, other)
        self.assertIs(asked_twice(self, same, ARITIES, other, one), answer)
        self.assertIs(type(answer), bool)
        return answer

    def test_however_they_are_written(self):
        written = (
            ((0,), (2, 0, 0)), ((0,), (0,), (2, 0, 1)), ((0,), (0,), (2, 1, 0)), ((0,), (0,), (2, 1, 1)),
            ((0,), (1, 0), (1, 1), (2, 0, 0)),
        )
        for one in written:
            for other in written:
                self.assertTrue(self.same(one, other))

    def test_different_ones(self):
        trees = (LEAF, chain(1, 2), chain(1, 3), ((0,), (2, 0, 0)), ((0,), (1, 0), (2, 0, 1)), ((0,), (1, 0), (2, 1, 0)),
                 ((0,), (1, 0), (2, 1, 1)), ((0,), (2, 0, 0), (1, 1)))
        for at, one in enumerate(trees):
            for place, other in enumerate(trees):
                self.assertIs(self.same(one, other), at == place)

    def test_different_operators(self):
        arities = (0, 0, 2, 2)
        self.assertIs(same(arities, ((0,),), ((1,),)), False)
        self.assertIs(same(arities, ((0,), (2, 0, 0)), ((0,), (3, 0, 0))), False)
        self.assertIs(same(arities, ((0,), (1,), (2, 0, 1)), ((1,), (0,), (2, 0, 1))), False)
        self.assertIs(same(arities, ((0,), (1,), (2, 0, 1)), ((1,), (0,), (2, 1, 0))), True)

    def test_only_the_last_nodes_part_counts(self):
        self.assertTrue(self.same(chain(1, 5) + ((0,),), LEAF))
        self.assertFalse(self.same(LEAF + ((1, 0),), LEAF))

    def test_against_the_trees_themselves(self):
        answers = set()
        for seed in range(600):
            one = some_tree(chance(seed), ARITIES, 4)
            other = some_tree(chance(seed + 5000), ARITIES, 4)
            answer = self.same(one, other)
            self.assertIs(answer, unshared(one) == unshared(other))
            answers.add(answer)
        self.assertEqual(answers, {True, False})

    def test_by_name(self):
        self.assertIs(same(arities=ARITIES, one=LEAF, other=LEAF), True)
        self.assertIs(same(other=chain(1, 2), one=LEAF, arities=ARITIES), False)

    def test_trees_far_too_great(self):
        # Each part is written twice, so that at every node the two arguments have different numbers.
        pairs = [(0,), (0,)]
        for at in range(0, 96, 2):
            pairs += [(2, at, at + 1), (2, at + 1, at)]
        pairs.append((2, 96, 97))
        once = doubled(2, 50)
        self.assertEqual((len(pairs), nodes(ARITIES, once)), (99, 2**50 - 1))
        self.assertTrue(self.same(once, tuple(pairs)))
        self.assertTrue(self.same(tuple(pairs), tuple(pairs)))
        self.assertFalse(self.same(once, tuple(pairs[:-1])))
        self.assertFalse(self.same(once, doubled(2, 51)))
        self.assertTrue(self.same(doubled(2, 100), doubled(2, 100)))

    def test_a_difference_far_down(self):
        arities = (0, 0, 2)
        one = ((0,), (1,)) + tuple([(2, max(at - 1, 0), at) for at in range(1, 99)])
        other = ((1,), (0,)) + one[2:]
        self.assertEqual(nodes(arities, one), nodes(arities, other))
        self.assertEqual(len(one), 100)
        self.assertIs(same(arities, one, other), False)
        self.assertIs(same(arities, one, one[:2] + one[2:]), True)


class Spelled(unittest.TestCase):
    def test_ordinary_trees(self):
        self.assertEqual(spelled(NEAR[0], NEAR_TREE), (1, 1, 0, 0, 0))
        self.assertEqual(spelled(ARITIES, LEAF), (0,))
        self.assertEqual(spelled(ARITIES, ((0,), (1, 0), (2, 0, 1))), (2, 0, 1, 0))
        self.assertEqual(spelled(ARITIES, ((0,), (1, 0), (2, 1, 0))), (2, 1, 0, 0))
        self.assertEqual(spelled(ARITIES, ((0,), (1, 0), (1, 1), (0,), (2, 1, 3), (2, 4, 2))), (2, 2, 1, 0, 0, 1, 1, 0))

    def test_against_the_tree_itself(self):
        for seed in range(300):
            tree = some_tree(chance(seed), ARITIES, 7)
            expected = prefix(unshared(tree))
            if len(expected) <= 200:
                self.assertEqual(asked_twice(self, spelled, ARITIES, tree), expected)

    def test_200_and_201_nodes(self):
        # 127 nodes, and below the last one 72 or 73 more.
        for extra in (72, 73):
            tree = doubled(2, 7) + ((1, 0),) + tuple([(1, at + 7) for at in range(extra - 2)])
            tree += ((2, 6, len(tree) - 1),)
            self.assertEqual(nodes(ARITIES, tree), 128 + extra)
            if extra == 72:
                self.assertEqual(spelled(ARITIES, tree), prefix(unshared(tree)))
            else:
                self.too_many(tree, 201)

    def test_chains_of_200_and_201_nodes(self):
        self.assertEqual(spelled(ARITIES, chain(1, 200)), (1,) * 199 + (0,))
        self.too_many(chain(1, 201), 201)

    def test_the_number_of_nodes_is_told(self):
        self.too_many(doubled(2, 8), 255)
        self.too_many(doubled(2, 100), 2**100 - 1)
        self.too_many(doubled(2, 20000), 2**20000 - 1)

    def too_many(self, tree, amount):
        with self.assertRaises(TooMany) as caught:
            spelled(ARITIES, tree)
        self.assertEqual((caught.exception.amount, caught.exception.limit), (amount, 200))

    def test_unneeded_nodes_do_not_count(self):
        self.assertEqual(spelled(ARITIES, chain(1, 99) + ((0,),)), (0,))
        self.assertEqual(spelled(ARITIES, doubled(2, 90) + ((1, 1),)), (1, 2, 0, 0))
        self.assertEqual(spelled(ARITIES, chain(1, 300) + ((0,),)), (0,))

    def test_by_name(self):
        self.assertEqual(spelled(arities=ARITIES, tree=chain(1, 3)), (1, 1, 0))


class UnspelledTrees(unittest.TestCase):
    def test_ordinary_ones(self):
        for operators, tree in (
            ((0,), LEAF),
            ((1, 0), ((0,), (1, 0))),
            ((2, 0, 0), ((0,), (0,), (2, 0, 1))),
            ((2, 1, 0, 0), ((0,), (1, 0), (0,), (2, 1, 2))),
            ((2, 0, 1, 0), ((0,), (0,), (1, 1), (2, 0, 2))),
            ((2, 2, 0, 0, 1, 0), ((0,), (0,), (2, 0, 1), (0,), (1, 3), (2, 2, 4))),
            ((2, 1, 0, 2, 0, 0), ((0,), (1, 0), (0,), (0,), (2, 2, 3), (2, 1, 4))),
        ):
            self.assertEqual(asked_twice(self, unspelled, ARITIES, operators), tree)
        self.assertEqual(unspelled(NEAR[0], (1, 1, 0, 0, 0)), ((0,), (0,), (1, 0, 1), (0,), (1, 2, 3)))

    def test_kinds_of_the_answer(self):
        tree = unspelled(ARITIES, (2, 1, 0, 0))
        self.assertIs(type(tree), tuple)
        self.assertEqual({type(node) for node in tree}, {tuple})

    def test_back_and_forth(self):
        for seed in range(300):
            tree = some_tree(chance(seed), ARITIES, 7)
            if nodes(ARITIES, tree) <= 200:
                operators = spelled(ARITIES, tree)
                written = unspelled(ARITIES, operators)
                self.assertEqual(len(written), len(operators))
                self.assertIs(is_tree(ARITIES, written), True)
                self.assertEqual(unshared(written), unshared(tree))
                self.assertIs(same(ARITIES, written, tree), True)
                self.assertEqual(spelled(ARITIES, written), operators)

    def test_every_short_tuple_of_operators(self):
        rows = [()]
        for length in range(6):
            for row in rows:
                missing = 1
                complete = False
                for at, operator in enumerate(row):
                    missing += ARITIES[operator] - 1
                    complete = missing == 0 and at == len(row) - 1
                    if missing == 0:
                        break
                if complete:
                    self.assertEqual(prefix(unshared(unspelled(ARITIES, row))), row)
                else:
                    self.assertRaises(Unspelled, unspelled, ARITIES, row)
            rows = [row + (operator,) for row in rows for operator in range(3)]

    def test_spells_no_tree(self):
        for operators in ((), (1,), (2,), (2, 0), (0, 0), (1, 0, 0), (0, 1, 0), (2, 0, 0, 0), (2, 1, 0), (3,), (-1,),
                          (1, 3), (2, 0, -3), (0, 3)):
            self.assertRaises(Unspelled, unspelled, ARITIES, operators)

    def test_wrong_values(self):
        for operators in wrong_values() + [None, 0, [0], [1, 0], "0", {0: 0}, (None,), ("0",), ((0,),), LEAF]:
            self.assertRaises(Unspelled, unspelled, ARITIES, operators)
        operators = (2, 1, 0, 0)
        for place in places(operators):
            for wrong in wrong_values() + [None, likeness(part_at(operators, place))]:
                self.assertRaises(Unspelled, unspelled, ARITIES, replaced(operators, place, wrong))
        for operators in ((False,), (True, 0), (1, False), (2, 0, False)):
            self.assertRaises(Unspelled, unspelled, ARITIES, operators)

    def test_200_and_201_operators(self):
        tree = asked_twice(self, unspelled, ARITIES, (1,) * 199 + (0,))
        self.assertEqual(tree, chain(1, 200))
        self.assertRaises(Unspelled, unspelled, ARITIES, (1,) * 200 + (0,))
        self.assertRaises(Unspelled, unspelled, ARITIES, (2, 0) * 100 + (0,))
        self.assertEqual(nodes(ARITIES, unspelled(ARITIES, (2, 0) * 99 + (0,))), 199)
        self.assertRaises(Unspelled, unspelled, ARITIES, (0,) * 4000)

    def test_no_tree_without_leaves(self):
        for operators in ((0,), (0, 0), (0,) * 200):
            self.assertRaises(Unspelled, unspelled, (1,), operators)
            self.assertRaises(Unspelled, unspelled, (2,), operators)

    def test_by_name(self):
        self.assertEqual(unspelled(arities=ARITIES, operators=(1, 0)), chain(1, 2))
        self.assertRaises(Unspelled, unspelled, operators=(1,), arities=ARITIES)


if __name__ == "__main__":
    unittest.main()
