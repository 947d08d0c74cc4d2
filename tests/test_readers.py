import copy
import unittest

from codepick.chooser import states, step
from codepick.covers import first_cover, price_of
from codepick.errors import (Endless, NoArguments, NoCover, NoMachine, NoOperator, NoPlace, NothingDone, NothingRead,
                             TooMany)
from codepick.prices import prices, relative
from codepick.readers import Counting, Keeping, KeepingCounting, Reader
from codepick.trees import is_tree, nodes, same
from brute import Rows, written
from samples import (NEAR, NEAR_TREE, SMALL, WIDE, chance, counters, machine_for, some_machine, spoiled, unshared,
                     wrong_values)

CLASSES = (Reader, Keeping, Counting, KeepingCounting)
KEEPERS = (Keeping, KeepingCounting)
COUNTERS = (Counting, KeepingCounting)
# Of the two arguments of operator 2, the first one is taken in form 0, and the second one in form 1.
ORDERED = ((0, 0, 2), 2, ((0, 0, (), 1), (1, 0, (), 5), (0, 1, (), 7), (1, 1, (), 3), (0, 2, (0, 1), 10)), ())
GROWING = counters((None,), (1, (1,)))
CROWD = counters((None, None), (1, 2))


class Stop(Exception):
    """What leaves a trial in these tests."""


def seen(reader):
    """All that a reader tells."""
    last = [reader.prices, reader.state] if reader.height else []
    kept = [reader.trees] if isinstance(reader, Keeping) else []
    counted = [reader.fed] if isinstance(reader, Counting) else []
    parts = [reader[place] for place in range(reader.height)]
    return [reader.machine, reader.height, reader.deeds, len(reader), repr(reader), last, kept, counted, parts]


def computed(machine, code):
    """What the words of code compute, done one after another, and at what price: (form, nested tree, price)."""
    done = []
    total = 0
    first = len(machine[2])
    for word in code:
        number = int(word[1:])
        assert word == word[0] + str(number)
        if word[0] == "i":
            form, operator, arguments, price = machine[2][number]
            parts = done[len(done) - len(arguments):]
            assert [found for found, part in parts] == list(arguments)
            del done[len(done) - len(arguments):]
            done.append((form, (operator, *[part for found, part in parts])))
        else:
            assert word[0] == "c"
            start, end, price = machine[3][number - first]
            form, part = done.pop()
            assert form == start
            done.append((end, part))
        total += price
    (form, nested), = done
    return form, nested, total


def postfix(nested):
    """The operators of a nested tree, arguments first."""
    return sum([postfix(part) for part in nested[1:]], []) + [nested[0]]


def words(cover, machine):
    """The words of a cover in prefix order, and how many pairs of it were used up, by the order of the document."""
    number, way = cover[0]
    used = 1
    found = []
    for argument in machine[2][number][2]:
        more, amount = words(cover[used:], machine)
        found += more
        used += amount
    return found + [f"i{number}"] + [f"c{conversion}" for conversion in way], used


class Model:
    """What a reader is to do, with the parts as nested trees and all earlier parts kept."""

    def __init__(self, machine):
        self.machine = machine
        self.rules = Rows(machine)
        self.parts = []
        self.before = []
        self.fed = 0

    def over(self, parts, operator):
        many = self.machine[0][operator]
        return parts[:len(parts) - many] + [(operator, *parts[len(parts) - many:])]

    def feed_all(self, operators):
        parts = self.parts
        for operator in operators:
            if operator not in range(len(self.machine[0])):
                raise NoOperator()
            if self.machine[0][operator] > len(parts):
                raise NoArguments()
            parts = self.over(parts, operator)
        self.before.append(self.parts)
        self.parts = parts
        self.fed += len(operators)

    def undo(self):
        if not self.before:
            raise NothingDone()
        self.parts = self.before.pop()

    def kept(self):
        return self.parts, list(self.before)

    def put_back(self, kept):
        self.parts, self.before = kept[0], list(kept[1])


class Agrees(unittest.TestCase):
    def agree(self, reader, model):
        """Whether the reader tells what it is to tell, and what functions tell of the same trees."""
        machine = model.machine
        rows = [model.rules.of(part) for part in model.parts]
        self.assertEqual(reader.machine, machine)
        self.assertEqual([reader.height, reader.deeds], [len(rows), len(model.before)])
        self.assertEqual([reader[place] for place in range(len(rows))], rows)
        self.assertEqual(len(reader), sum([len(postfix(part)) for part in model.parts]))
        if isinstance(reader, Counting):
            self.assertEqual(reader.fed, model.fed)
        if isinstance(reader, Keeping):
            self.assertEqual([unshared(tree) for tree in reader.trees], model.parts)
            self.assertIs(all([is_tree(machine[0], tree) for tree in reader.trees]), True)
        if rows:
            tree = written(model.parts[-1])
            self.assertEqual(reader.prices, prices(machine, tree))
            self.assertEqual(reader.state, relative(prices(machine, tree))[0])
            self.assertEqual(reader.prices, rows[-1])
            if isinstance(reader, Keeping):
                self.assertEqual(unshared(reader.tree), model.parts[-1])
                self.assertEqual(reader.tree, reader.trees[-1])


class Feeding(Agrees):
    def test_near(self):
        for kind in CLASSES:
            reader = kind(NEAR)
            for operator in (0, 0, 1, 0):
                self.assertIsNone(reader.feed(operator))
            self.assertEqual((reader.height, reader.deeds, len(reader)), (2, 4, 4))
            self.assertEqual((reader[0], reader[1]), ((0, 3), (1, 0)))
            self.assertIsNone(reader.feed(operator=1))
            self.assertEqual((reader.prices, reader.state), ((1, 2), (0, 1)))
            self.assertEqual(reader.prices, prices(NEAR, NEAR_TREE))
            self.assertEqual((reader.height, reader.deeds, len(reader)), (1, 5, 5))
            self.assertEqual(reader.machine, NEAR)

    def test_order_of_arguments(self):
        for kind in CLASSES:
            one, other = kind(machine=ORDERED), kind(machine=ORDERED)
            one.feed_all(0, 1, 2)
            other.feed_all(1, 0, 2)
            self.assertEqual(one.prices, (1 + 3 + 10, None))
            self.assertEqual(other.prices, (7 + 5 + 10, None))
            if isinstance(one, Keeping):
                self.assertEqual((unshared(one.tree), unshared(other.tree)), ((2, (0,), (1,)), (2, (1,), (0,))))

    def test_last_parts_are_taken(self):
        """Parts below those that are taken stay as they are."""
        for kind in CLASSES:
            reader = kind(ORDERED)
            reader.feed_all(1, 0, 0, 1)
            reader.feed(2)
            self.assertEqual([reader[place] for place in range(3)], [(7, 3), (1, 5), (14, None)])
            self.assertEqual((reader.height, len(reader), reader.deeds), (3, 5, 2))

    def test_no_prices(self):
        for kind in CLASSES:
            reader = kind(WIDE)
            reader.feed_all(3, 0)
            self.assertEqual(reader[0], (None,) * 4)
            reader.feed_all(1, 2)
            self.assertEqual((reader.prices, reader.state), ((None,) * 4, (None,) * 4))

    def test_no_operator(self):
        for kind in CLASSES:
            reader = kind(NEAR)
            reader.feed_all(0, 0)
            for wrong in wrong_values() + [None, 2, 3, -1, True, False, "0", (0,), 0.0, 1.0, [0], {0: 0}, NEAR]:
                self.refused(reader, NoOperator, wrong)
            empty = kind(NEAR)
            self.refused(empty, NoOperator, 2)

    def test_no_arguments(self):
        for kind in CLASSES:
            machine = (0, 1, 2), 1, ((0, 0, (), 1), (0, 1, (0,), 1), (0, 2, (0, 0), 1)), ()
            reader = kind(machine)
            self.refused(reader, NoArguments, 1)
            self.refused(reader, NoArguments, 2)
            reader.feed(0)
            self.refused(reader, NoArguments, 2)
            reader.feed(1)
            self.refused(reader, NoArguments, 2)
            reader.feed(0)
            reader.feed(2)
            self.assertEqual(reader.prices, (4,))
            self.refused(reader, NoArguments, 2)

    def refused(self, reader, error, *operators):
        """Both ways of feeding refuse, and nothing is changed then."""
        before = seen(reader)
        for feed in (reader.feed, reader.feed_all) if len(operators) == 1 else (reader.feed_all,):
            with self.assertRaises(error):
                feed(*operators)
            self.assertEqual(seen(reader), before)

    def test_feed_all(self):
        for kind in CLASSES:
            reader = kind(NEAR)
            self.assertIsNone(reader.feed_all())
            self.assertEqual((reader.deeds, reader.height, len(reader)), (1, 0, 0))
            self.assertIsNone(reader.feed_all(0, 0, 1, 0, 1))
            self.assertEqual((reader.deeds, reader.height, len(reader)), (2, 1, 5))
            self.assertEqual(reader.prices, (1, 2))
            reader.feed_all(*[0] * 2000, *[1] * 1999)
            self.assertEqual((reader.deeds, reader.height, len(reader)), (3, 2, 4004))

    def test_feed_all_refused_in_the_middle(self):
        for kind in CLASSES:
            reader = kind(NEAR)
            reader.feed_all(0, 0)
            for error, operators in (
                (NoArguments, (1, 1)), (NoArguments, (1, 1, 2)), (NoArguments, (1, 1, 0, 0)), (NoOperator, (1, 2, 1)),
                (NoOperator, (1, 2, 1, 1)), (NoOperator, (2, 1, 1)), (NoOperator, (True, 0)), (NoOperator, (0, 0, 0, None)),
                (NoOperator, ((0, 1),)), (NoOperator, ([0],)), (NoArguments, (1, 0, 1, 1, None)), (NoOperator, (0, 0, "0")),
                (NoArguments, (1, 1, "0")), (NoOperator, (0, -1)), (NoOperator, (1, 1.0)),
            ):
                self.refused(reader, error, *operators)
            reader.feed_all(1, 0, 1)
            self.assertEqual((reader.prices, reader.deeds), ((1, 2), 2))

    def test_wrong_machines(self):
        for kind in CLASSES:
            for wrong in wrong_values() + [None, ()] + spoiled(SMALL):
                self.assertRaises(NoMachine, kind, wrong)

    def test_infinitely_many_states(self):
        for kind in CLASSES:
            reader = kind(GROWING)
            self.assertRaises(Endless, states, GROWING)
            reader.feed_all(0, *[1] * 500)
            self.assertEqual((reader.prices, reader.state), ((0, 500), (0, 500)))
            reader.feed(2)
            self.assertEqual((reader.prices, reader.state), ((500, 500), (0, 0)))
            reader = kind(CROWD)
            reader.feed_all(0, *[1] * 300, *[2] * 400)
            self.assertEqual(reader.state, (0, 300, 400))

    def test_arguments_stay(self):
        machine = copy.deepcopy(NEAR)
        operators = [0, 0, 1]
        for kind in CLASSES:
            reader = kind(machine)
            reader.feed_all(*operators)
            reader.undo()
            self.assertEqual((machine, operators), (NEAR, [0, 0, 1]))

    def test_states_are_those_of_step(self):
        for kind in CLASSES:
            reader = kind(NEAR)
            for operator in (0, 0, 1, 0, 1, 0, 0, 1, 1):
                parts = [relative(reader[place])[0] for place in range(reader.height)]
                reader.feed(operator)
                many = NEAR[0][operator]
                self.assertEqual(reader.state, step(NEAR, operator, tuple(parts[len(parts) - many:]))[0])


class Undoing(Agrees):
    def test_nothing_and_everything(self):
        for kind in CLASSES:
            reader = kind(NEAR)
            self.assertRaises(NothingDone, reader.undo)
            reader.feed(0)
            self.assertIsNone(reader.undo())
            self.assertEqual((reader.height, reader.deeds, len(reader)), (0, 0, 0))
            self.assertRaises(NothingDone, reader.undo)
            found = [seen(reader)[:7] + [[]] + seen(reader)[8:]]
            for operator in (0, 0, 1, 0, 1):
                reader.feed(operator)
                found.append(seen(reader)[:7] + [[]] + seen(reader)[8:])
            for expected in found[:-1][::-1]:
                reader.undo()
                self.assertEqual(seen(reader)[:7] + [[]] + seen(reader)[8:], expected)
            self.assertRaises(NothingDone, reader.undo)

    def test_feed_all_is_one_deed(self):
        for kind in CLASSES:
            reader = kind(NEAR)
            reader.feed(0)
            reader.feed_all(0, 1, 0, 1)
            reader.feed_all()
            reader.undo()
            self.assertEqual((reader.prices, reader.deeds, len(reader)), ((1, 2), 2, 5))
            reader.undo()
            self.assertEqual((reader.prices, reader.deeds, len(reader)), ((1, 0), 1, 1))
            reader.undo()
            self.assertEqual((reader.height, reader.deeds, len(reader)), (0, 0, 0))
            self.assertRaises(NothingDone, reader.undo)

    def test_nothing_to_take_back_but_no_operators(self):
        for kind in CLASSES:
            reader = kind(NEAR)
            reader.feed_all()
            reader.undo()
            self.assertRaises(NothingDone, reader.undo)

    def test_what_was_refused_is_no_deed(self):
        for kind in CLASSES:
            reader = kind(NEAR)
            reader.feed_all(0, 0)
            self.assertRaises(NoArguments, reader.feed_all, 1, 1)
            self.assertRaises(NoOperator, reader.feed, 9)
            reader.undo()
            self.assertEqual((reader.height, reader.deeds), (0, 0))

    def test_undone_and_fed_again(self):
        for kind in CLASSES:
            reader = kind(ORDERED)
            reader.feed_all(0, 1)
            reader.feed(2)
            reader.undo()
            reader.feed(0)
            self.assertEqual([reader[place] for place in range(3)], [(1, 5), (7, 3), (1, 5)])
            reader.feed(2)
            self.assertEqual([reader[place] for place in range(2)], [(1, 5), (22, None)])
            self.assertEqual(reader.deeds, 3)


class Trials(Agrees):
    def test_that_end_well(self):
        for kind in CLASSES:
            reader = kind(NEAR)
            reader.feed(0)

            def work(given):
                self.assertIs(given, reader)
                given.feed_all(0, 1)
                given.feed(0)
                return "told", given.height

            self.assertEqual(reader.trial(work), ("told", 2))
            self.assertEqual((reader.height, reader.deeds, len(reader)), (2, 3, 4))
            reader.undo()
            self.assertEqual((reader.prices, reader.deeds), ((0, 3), 2))
            reader.undo()
            reader.undo()
            self.assertRaises(NothingDone, reader.undo)
            self.assertIsNone(reader.trial(lambda given: None))
            self.assertIsNone(reader.trial(work=lambda given: given.feed(0)))
            self.assertEqual((reader.height, reader.deeds), (1, 1))

    def test_that_end_with_an_exception(self):
        for kind in CLASSES:
            for error in (Stop, KeyError, KeyboardInterrupt, StopIteration, NoArguments, SystemExit):
                reader = kind(NEAR)
                reader.feed_all(0, 0)
                reader.feed(1)
                before = seen(reader)[:7]
                raised = error()

                def work(given):
                    given.feed_all(0, 1)
                    given.feed(0)
                    raise raised

                with self.assertRaises(error) as caught:
                    reader.trial(work)
                self.assertIs(caught.exception, raised)
                self.assertEqual(seen(reader)[:7], before)
                reader.undo()
                self.assertEqual([reader[0], reader[1], reader.deeds], [(1, 0), (1, 0), 1])

    def test_that_are_refused_something(self):
        for kind in CLASSES:
            reader = kind(NEAR)
            reader.feed(0)

            def work(given):
                given.feed(0)
                given.feed_all(1, 1)

            self.assertRaises(NoArguments, reader.trial, work)
            self.assertEqual((reader.height, reader.deeds, len(reader)), (1, 1, 1))

            def caught(given):
                given.feed(0)
                try:
                    given.feed_all(1, 1)
                except NoArguments:
                    return "went on"

            self.assertEqual(reader.trial(caught), "went on")
            self.assertEqual((reader.height, reader.deeds), (2, 2))

    def test_that_undo(self):
        """Also what was done before the trial began."""
        for kind in CLASSES:
            reader = kind(NEAR)
            reader.feed_all(0, 0)
            reader.feed(1)
            before = seen(reader)[:7]

            def work(given):
                given.undo()
                given.undo()
                given.feed_all(0)
                raise Stop()

            self.assertRaises(Stop, reader.trial, work)
            self.assertEqual(seen(reader)[:7], before)

            def more(given):
                given.undo()
                given.undo()
                given.undo()

            self.assertRaises(NothingDone, reader.trial, more)
            self.assertEqual(seen(reader)[:7], before)
            reader.trial(lambda given: given.undo())
            self.assertEqual((reader.height, reader.deeds, len(reader)), (2, 1, 2))
            reader.undo()
            self.assertRaises(NothingDone, reader.undo)

    def test_within_one_another(self):
        for kind in CLASSES:
            for inner_fails in (False, True):
                for outer_fails in (False, True):
                    reader = kind(NEAR)
                    reader.feed(0)

                    def inner(given):
                        given.feed(0)
                        given.feed(1)
                        if inner_fails:
                            raise Stop("inner")
                        return "inner"

                    def outer(given):
                        given.feed_all(0, 0)
                        try:
                            told = given.trial(inner)
                        except Stop as stop:
                            told = str(stop)
                        self.assertEqual(given.deeds, 2 if inner_fails else 4)
                        given.feed(0)
                        if outer_fails:
                            raise Stop("outer")
                        return told

                    if outer_fails:
                        with self.assertRaises(Stop) as caught:
                            reader.trial(outer)
                        self.assertEqual(str(caught.exception), "outer")
                        self.assertEqual((reader.height, reader.deeds), (1, 1))
                    else:
                        self.assertEqual(reader.trial(outer), "inner")
                        self.assertEqual((reader.height, reader.deeds), (4, 3) if inner_fails else (4, 5))

    def test_an_exception_through_both(self):
        for kind in CLASSES:
            reader = kind(NEAR)

            def work(given):
                given.feed(0)
                given.trial(lambda inner: inner.feed_all(0, 1, 1))

            self.assertRaises(NoArguments, reader.trial, work)
            self.assertEqual((reader.height, reader.deeds, len(reader)), (0, 0, 0))

    def test_no_work(self):
        """What is no function cannot be called, and the reader stays as it was."""
        for kind in CLASSES:
            reader = kind(NEAR)
            reader.feed(0)
            for work in (None, 0, "work"):
                self.assertRaises(TypeError, reader.trial, work)
                self.assertEqual((reader.height, reader.deeds), (1, 1))


class Parts(unittest.TestCase):
    def test_nothing_read(self):
        for kind in CLASSES:
            reader = kind(NEAR)
            for again in range(2):
                self.assertEqual((reader.height, reader.deeds, len(reader)), (0, 0, 0))
                with self.assertRaises(NothingRead):
                    reader.prices
                with self.assertRaises(NothingRead):
                    reader.state
                self.assertRaises(NoPlace, lambda: reader[0])
                if isinstance(reader, Keeping):
                    with self.assertRaises(NothingRead):
                        reader.tree
                    self.assertRaises(NothingRead, reader.code)
                    self.assertEqual(reader.trees, ())
                reader.feed(0)
                reader.undo()

    def test_places(self):
        for kind in CLASSES:
            reader = kind(NEAR)
            reader.feed_all(0, 0, 1, 0)
            self.assertEqual((reader[0], reader[1]), ((0, 3), (1, 0)))
            for wrong in wrong_values() + [
                None, -1, -2, 2, 3, True, False, "0", (0,), 0.0, slice(0, 1), slice(None), [0], {0: 0}, NEAR, (0, 1), ...,
            ]:
                with self.assertRaises(NoPlace):
                    reader[wrong]
            self.assertEqual(reader.deeds, 1)

    def test_repr(self):
        for kind in CLASSES:
            reader = kind(NEAR)
            for parts in range(4):
                self.assertEqual(repr(reader), f"{kind.__name__}({parts} parts)")
                self.assertEqual(str(reader), repr(reader))
                reader.feed(0)
            reader.feed_all(1, 1, 1)
            self.assertEqual(repr(reader), f"{kind.__name__}(1 parts)")

    def test_length(self):
        for kind in CLASSES:
            reader = kind(NEAR)
            for many, operator in enumerate((0, 0, 0, 1, 1, 0), start=1):
                reader.feed(operator)
                self.assertEqual(len(reader), many)
                self.assertEqual(reader.height, (1, 2, 3, 2, 1, 2)[many - 1])
            reader.undo()
            self.assertEqual(len(reader), 5)


class Equal(unittest.TestCase):
    def fed(self, kind, machine, *operators):
        reader = kind(machine)
        reader.feed_all(*operators)
        return reader

    def equal(self, one, other, expected):
        self.assertIs(one == other, expected)
        self.assertIs(other == one, expected)
        self.assertIs(one != other, not expected)

    def test_classes(self):
        for one in CLASSES:
            for other in CLASSES:
                for operators in ((), (0,), (0, 0, 1, 0)):
                    self.equal(self.fed(one, NEAR, *operators), self.fed(other, NEAR, *operators), one == other)

    def test_parts_and_machines(self):
        more = NEAR[:2] + (NEAR[2] + ((0, 0, (), 1),), NEAR[3])
        for kind in CLASSES:
            reader = self.fed(kind, NEAR, 0, 0, 1)
            self.equal(reader, reader, True)
            self.equal(reader, self.fed(kind, copy.deepcopy(NEAR), 0, 0, 1), True)
            self.equal(reader, self.fed(kind, more, 0, 0, 1), False)
            self.assertEqual(self.fed(kind, more, 0, 0, 1).prices, reader.prices)
            self.equal(reader, self.fed(kind, NEAR, 0), False)
            self.equal(reader, self.fed(kind, NEAR, 0, 0, 1, 0), False)
            self.equal(reader, self.fed(kind, NEAR), False)
            self.equal(self.fed(kind, NEAR, 0, 0, 1, 0), self.fed(kind, NEAR, 0, 0, 0, 1), False)

    def test_equal_prices_from_other_trees(self):
        for kind in CLASSES:
            one, other = self.fed(kind, NEAR, 0, 0, 0, 1, 1), self.fed(kind, NEAR, 0, 0, 1, 0, 1)
            self.equal(one, other, True)
            if isinstance(one, Keeping):
                self.assertIs(same(NEAR[0], one.tree, other.tree), False)
            machine = (0, 0, 1), 1, ((0, 0, (), 3), (0, 1, (), 1), (0, 2, (0,), 2)), ()
            self.equal(self.fed(kind, machine, 0), self.fed(kind, machine, 1, 2), True)

    def test_whatever_was_done(self):
        for kind in CLASSES:
            one, other = kind(NEAR), kind(NEAR)
            one.feed_all()
            one.feed_all(0, 0)
            one.undo()
            one.feed(0)
            other.feed(0)
            self.equal(one, other, True)
            self.assertRaises(NoArguments, one.feed, 1)
            self.assertRaises(NoArguments, one.trial, lambda given: given.feed_all(0, 1, 1))
            self.equal(one, other, True)
            self.assertNotEqual(one.deeds, other.deeds)

    def test_nothing_else(self):
        for kind in CLASSES:
            reader = self.fed(kind, NEAR, 0)
            for thing in wrong_values() + [None, (), 0, 1, "Reader(1 parts)", repr(reader), NEAR, ((1, 0),), [(1, 0)], kind]:
                self.equal(reader, thing, False)
            self.assertNotIn(reader, [0, None, "", ()])


class Keepings(Agrees):
    def test_trees(self):
        for kind in KEEPERS:
            reader = kind(NEAR)
            reader.feed_all(0, 0, 1, 0)
            self.assertEqual([unshared(tree) for tree in reader.trees], [(1, (0,), (0,)), (0,)])
            self.assertIsInstance(reader.trees, tuple)
            self.assertEqual(reader.tree, reader.trees[1])
            reader.feed(1)
            self.assertIs(same(NEAR[0], reader.tree, NEAR_TREE), True)
            self.assertEqual(reader.trees, (reader.tree,))
            self.assertEqual(reader.trees, reader.trees)
            reader.undo()
            self.assertEqual(len(reader.trees), 2)

    def test_great_trees(self):
        for kind in KEEPERS:
            reader = kind(NEAR)
            reader.feed_all(*[0] * 3000, *[1] * 2999)
            self.assertEqual(nodes(NEAR[0], reader.tree), 5999)
            self.assertEqual(reader.prices, prices(NEAR, reader.tree))
            with self.assertRaises(TooMany) as caught:
                reader.code()
            self.assertEqual((caught.exception.amount, caught.exception.limit), (5999, 40))

    def test_code(self):
        for kind in KEEPERS:
            reader = kind(NEAR)
            reader.feed_all(0, 0, 1, 0, 1)
            self.assertEqual(first_cover(NEAR, NEAR_TREE), ((4, ()), (2, ()), (1, ()), (1, ()), (0, ())))
            self.assertEqual(reader.code(), ("i1", "i1", "i2", "i0", "i4"))
            self.assertEqual(reader.code(), reader.code())
            reader.feed(0)
            self.assertEqual(reader.code(), ("i0",))

    def test_code_with_ways(self):
        """Behind each instruction comes its way, also behind one that is an argument's."""
        machine = (0, 1), 4, ((3, 0, (), 1), (2, 1, (1,), 2)), ((3, 2, 0), (2, 1, 4), (1, 0, 0), (3, 1, 9))
        for kind in KEEPERS:
            reader = kind(machine)
            reader.feed(0)
            self.assertEqual(reader.code(), ("i0", "c2", "c3", "c4"))
            reader.feed(1)
            self.assertEqual(reader.code(), ("i0", "c2", "c3", "i1", "c3", "c4"))
            self.assertEqual(reader.prices[0], 1 + 4 + 2 + 4)

    def test_arguments_in_order(self):
        for kind in KEEPERS:
            reader = kind(ORDERED)
            reader.feed_all(0, 1, 2)
            self.assertEqual(reader.code(), ("i0", "i3", "i4"))
            reader.undo()
            reader.feed_all(1, 0, 2)
            self.assertEqual(reader.code(), ("i2", "i1", "i4"))

    def test_no_cover(self):
        for kind in KEEPERS:
            reader = kind(((0, 1, 2), 2, ((0, 0, (), 1), (1, 1, (0,), 1)), ()))
            reader.feed(0)
            reader.feed(1)
            before = seen(reader)
            self.assertRaises(NoCover, reader.code)
            self.assertEqual(seen(reader), before)
            reader.undo()
            self.assertEqual(reader.code(), ("i0",))
            # A tree with too many nodes is refused ahead of that it has no cover.
            reader.feed_all(*[1] * 39)
            self.assertRaises(NoCover, reader.code)
            reader.feed(1)
            with self.assertRaises(TooMany) as caught:
                reader.code()
            self.assertEqual((caught.exception.amount, caught.exception.limit), (41, 40))

    def test_40_and_41_nodes(self):
        machine = (0, 1), 1, ((0, 0, (), 1), (0, 1, (0,), 1)), ()
        for kind in KEEPERS:
            reader = kind(machine)
            # Only the last part matters.
            reader.feed_all(0, *[1] * 60, 0, *[1] * 39)
            self.assertEqual(reader.code(), ("i0",) + ("i1",) * 39)
            reader.feed(1)
            with self.assertRaises(TooMany) as caught:
                reader.code()
            self.assertEqual((caught.exception.amount, caught.exception.limit), (41, 40))

    def test_code_computes_the_tree(self):
        done = 0
        for seed in range(150):
            dice = chance(seed)
            machine = some_machine(dice)
            if seed % 2:
                machine = machine_for(dice, (0, 0, 1, 2), 1 + seed // 2 % 4, 14, 6, 9)
            reader = KEEPERS[seed % 2](machine)
            for number in range(dice.randint(1, 14)):
                fitting = [operator for operator, arity in enumerate(machine[0]) if arity <= reader.height]
                reader.feed(dice.choice(fitting))
                if reader.prices[0] is None:
                    self.assertRaises(NoCover, reader.code)
                    continue
                code = reader.code()
                cover = first_cover(machine, reader.tree)
                self.assertEqual(computed(machine, code), (0, unshared(reader.tree), price_of(machine, reader.tree, cover)))
                self.assertEqual(list(code), words(cover, machine)[0])
                self.assertIsInstance(code, tuple)
                self.assertEqual(computed(machine, code)[2], reader.prices[0])
                done += 1
        self.assertGreater(done, 200)


class Countings(unittest.TestCase):
    def test_fed(self):
        for kind in COUNTERS:
            reader = kind(NEAR)
            self.assertEqual(reader.fed, 0)
            reader.feed(0)
            reader.feed_all(0, 1, 0)
            reader.feed_all()
            self.assertEqual(reader.fed, 4)
            reader.undo()
            reader.undo()
            self.assertEqual((reader.fed, len(reader)), (4, 1))
            reader.feed_all(0, 1)
            self.assertEqual((reader.fed, len(reader)), (6, 3))

    def test_what_is_refused_is_not_counted(self):
        for kind in COUNTERS:
            reader = kind(NEAR)
            reader.feed(0)
            for error, operators in ((NoArguments, (1,)), (NoOperator, (2,)), (NoArguments, (0, 1, 1)), (NoOperator, (0, 0, 7))):
                self.assertRaises(error, reader.feed_all, *operators)
                if len(operators) == 1:
                    self.assertRaises(error, reader.feed, *operators)
                self.assertEqual((reader.fed, reader.deeds), (1, 1))

    def test_trials(self):
        """Neither undo nor trial changes it, so that what a trial fed stays counted."""
        for kind in COUNTERS:
            reader = kind(NEAR)
            reader.feed(0)

            def work(given):
                given.feed_all(0, 1)
                given.undo()
                given.feed(0)
                given.feed(1)
                given.feed(1)

            self.assertRaises(NoArguments, reader.trial, work)
            self.assertEqual((reader.fed, len(reader), reader.deeds), (5, 1, 1))
            reader.trial(lambda given: given.feed_all(0, 0))
            self.assertEqual((reader.fed, len(reader)), (7, 3))

    def test_families(self):
        keeping, counting, both = Keeping(NEAR), Counting(NEAR), KeepingCounting(NEAR)
        self.assertIs(isinstance(both, Keeping) and isinstance(both, Counting) and isinstance(both, Reader), True)
        self.assertIs(isinstance(keeping, Reader) and isinstance(counting, Reader), True)
        self.assertIs(isinstance(keeping, Counting) or isinstance(counting, Keeping), False)
        for reader, absent in ((keeping, ("fed",)), (counting, ("tree", "trees", "code")),
                               (Reader(NEAR), ("tree", "trees", "code", "fed"))):
            for name in absent:
                self.assertIs(hasattr(reader, name), False)


class Walks(Agrees):
    def act(self, dice, reader, model, depth):
        """One deed at random, done with both; each raises what the other one raises."""
        many = len(model.machine[0])
        choice = dice.randrange(6)
        if choice < 2:
            self.both(reader.feed, model.feed_all, dice.randrange(many + 1), wrapped=True)
        elif choice == 2:
            operators = [dice.randrange(many) for number in range(dice.randint(0, 4))]
            self.both(reader.feed_all, model.feed_all, *operators, wrapped=True)
        elif choice == 3:
            self.both(reader.undo, model.undo)
        elif depth < 3:
            self.try_out(dice, reader, model, depth)

    def both(self, first, second, *arguments, wrapped=False):
        raised = []
        for call, given in ((first, arguments), (second, [arguments] if wrapped else arguments)):
            try:
                call(*given)
                raised.append(None)
            except (NoOperator, NoArguments, NothingDone) as error:
                raised.append(error.__class__)
        self.assertEqual(raised[0], raised[1])

    def try_out(self, dice, reader, model, depth):
        fails = dice.random() < 0.5
        kept = model.kept()

        def work(given):
            for number in range(dice.randint(0, 4)):
                self.act(dice, given, model, depth + 1)
                self.agree(given, model)
            if fails:
                raise Stop()
            return "done"

        if fails:
            self.assertRaises(Stop, reader.trial, work)
            model.put_back(kept)
        else:
            self.assertEqual(reader.trial(work), "done")

    def test_against_kept_trees(self):
        for seed in range(80):
            dice = chance(seed)
            machine = machine_for(dice, ((0, 1, 2), (0, 0, 2, 1), (0, 2))[seed % 3], 1 + seed % 4, 9, 4, 20)
            reader = CLASSES[seed // 4 % 4](machine)
            model = Model(machine)
            for number in range(25):
                self.act(dice, reader, model, 0)
                self.agree(reader, model)
                self.assertEqual(seen(reader), seen(reader))


if __name__ == "__main__":
    unittest.main()
