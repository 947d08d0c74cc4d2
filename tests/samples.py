"""Values that several tests use."""

import copy
import random

from codepick.chooser import states
from codepick.errors import Endless, NoTree, TooMany
from codepick.readers import Keeping, Reader
from codepick.sessions import Session

NEAR = ((0, 2), 2, ((0, 0, (), 1), (1, 0, (), 0), (0, 1, (1, 1), 0), (1, 1, (0, 0), 1), (0, 1, (0, 0), 0)), ())
NEAR_TREE = ((0,), (1, 0, 0), (1, 1, 0))

# The smallest machine, and one with everything at its limit but the numbers of instructions and conversions.
SMALL = ((0,), 1, ((0, 0, (), 0),), ())
WIDE = (
    (0, 1, 2, 0, 1, 2),
    4,
    ((0, 0, (), 20), (3, 1, (2,), 0), (1, 5, (3, 0), 7), (0, 0, (), 20)),
    ((0, 3, 20), (3, 2, 0), (1, 0, 5), (0, 3, 20)),
)


def deep(kind, depth):
    thing = kind()
    for level in range(depth - 1):
        thing = kind((thing,))
    return thing


def wrong_values():
    """Values of every kind, none of which is right in any place of a machine, a tree, a row or arities."""
    return [
        -1, -(10**20 - 1), 10**20 - 1, True, False,
        "", "0", "a text\n", "(0,)", "x" * 4000,
        [], [0], [[0], [1]], [None], list(NEAR), list(NEAR_TREE),
        {}, {0: 1}, {"forms": 1}, {(0,): [()]},
        (True,), (False,), (-1,), ("",), ([],), ({},), ((),), (((0,),),), ((True,),), ((None,),),
        (7,) * 4000, [0] * 4000, {number: None for number in range(1900)},
        deep(tuple, 20), deep(list, 20), [True, [None, {"a": (1, "b")}]],
        NoTree(), NoTree("a message"), TooMany(2, 1), (NoTree(),), Reader(NEAR), (Keeping(NEAR),), [Session()], Session(),
    ]


def places(value, place=()):
    """All places in nested tuples, each a tuple of indexes."""
    found = [place]
    if isinstance(value, tuple):
        for at, part in enumerate(value):
            found += places(part, place + (at,))
    return found


def part_at(value, place):
    for at in place:
        value = value[at]
    return value


def replaced(value, place, new):
    """The nested tuple with another value at a place."""
    if not place:
        return new
    at = place[0]
    return value[:at] + (replaced(value[at], place[1:], new),) + value[at + 1:]


def spoiled(value):
    """Many values, each of them the given nested tuple with something wrong in one place."""
    found = []
    for place in places(value):
        part = part_at(value, place)
        for wrong in wrong_values() + [likeness(part)]:
            found.append(replaced(value, place, wrong))
        if not isinstance(part, tuple):
            found.append(replaced(value, place, (part,)))
            found.append(replaced(value, place, str(part) + "x" * isinstance(part, str)))
    return found


def likeness(part):
    """A value of another kind that Python holds for equal, or as good as equal."""
    if isinstance(part, tuple):
        return list(part)
    if isinstance(part, str):
        return [part]
    return {0: False, 1: True}.get(part, float(part or 0))


def chain(operator, length):
    """A tree of one leaf, of operator 0, and above it nodes of an operator with one argument."""
    return ((0,),) + tuple([(operator, at) for at in range(length - 1)])


def doubled(operator, length):
    """A tree with so many written nodes, each but the first naming the one before it twice."""
    return ((0,),) + tuple([(operator, at, at) for at in range(length - 1)])


def unshared(tree, at=-1):
    """The tree as nested tuples (operator, part, ..)."""
    node = tree[at]
    return (node[0],) + tuple([unshared(tree, part) for part in node[1:]])


def some_tree(chance, arities, most):
    """A tree with up to most written nodes, shared and needless ones among them; operator 0 is a leaf."""
    tree = [(0,)]
    for at in range(1, chance.randint(1, most)):
        operator = chance.randrange(len(arities))
        tree.append((operator,) + tuple([chance.randrange(at) for argument in range(arities[operator])]))
    return tuple(tree)


def some_machine(chance, instructions=8, conversions=5):
    """A machine of which operator 0 is a leaf."""
    arities = (0,) + tuple([chance.randint(0, 2) for operator in range(chance.randint(0, 3))])
    forms = chance.randint(1, 4)
    rows = []
    for number in range(chance.randint(0, instructions)):
        operator = chance.randrange(len(arities))
        arguments = tuple([chance.randrange(forms) for argument in range(arities[operator])])
        rows.append((chance.randrange(forms), operator, arguments, chance.choice((0, 1, 2, 3, 5, 20))))
    steps = []
    for number in range(chance.randint(0, conversions) if forms > 1 else 0):
        start, end = chance.sample(range(forms), 2)
        steps.append((start, end, chance.choice((0, 1, 2, 7, 20))))
    return arities, forms, tuple(rows), tuple(steps)


def machine_for(chance, arities, forms, instructions, conversions, most=4, apart=False):
    """A machine with so many forms, instructions and conversions, with prices from 0 to most.

    Each operator has an instruction as long as there are enough of them; if the forms are to be kept apart, each
    has one in each form, and nothing but conversions leads from one form to another.
    """
    rows = []
    for number in range(instructions):
        operator = number // (forms if apart else 1)
        operator = operator if operator < len(arities) else chance.randrange(len(arities))
        form = number % forms if apart else chance.randrange(forms)
        arguments = tuple([form if apart else chance.randrange(forms) for argument in range(arities[operator])])
        rows.append((form, operator, arguments, chance.randint(0, most)))
    chance.shuffle(rows)
    steps = []
    for number in range(conversions if forms > 1 else 0):
        start, end = chance.sample(range(forms), 2)
        steps.append((start, end, chance.randint(0, most)))
    return arities, forms, tuple(rows), tuple(steps)


def varied(chance, machine):
    """Another machine for the same operators, with a few changes that may or may not tell on any tree."""
    arities, forms, rows, steps = machine
    rows, steps = list(rows), list(steps)
    for change in range(chance.randint(0, 2)):
        number = chance.randrange(len(rows))
        row = rows[number]
        change = chance.randrange(5)
        if change == 0:
            rows[number] = row[:3] + (chance.randint(0, 4),)
        elif change == 1 and len(rows) > 1:
            del rows[number]
        elif change == 2:
            rows.append(row[:3] + (min(20, row[3] + 1),))
        elif change == 3 and steps:
            del steps[chance.randrange(len(steps))]
        elif change == 4 and steps:
            step = steps[chance.randrange(len(steps))]
            steps.append(step[:2] + (max(0, min(20, step[2] + chance.choice((-1, 0, 1)))),))
    chance.shuffle(rows)
    chance.shuffle(steps)
    return arities, forms, tuple(rows), tuple(steps)


def counters(caps, moves, more=()):
    """A machine that counts in each form but the goal up to its cap, as far as the price is above that of the goal.

    Operator 0 is a leaf, all others have one argument: for a form in moves one that adds 1 there, for (form,) one
    that leaves the argument's price in this form in all forms, for None one that does nothing. A cap None is none.
    more has the arities of operators without an instruction.
    """
    forms = 1 + len(caps)
    rows = [(form, 0, (), 0) for form in range(forms)]
    for operator, move in enumerate(moves, start=1):
        for form in range(forms):
            if isinstance(move, tuple):
                rows.append((form, operator, move, 0))
            else:
                rows.append((form, operator, (form,), int(form == move)))
    steps = [(0, form, cap) for form, cap in enumerate(caps, start=1) if cap is not None]
    return (0,) + (1,) * len(moves) + tuple(more), forms, tuple(rows), tuple(steps)


def numbers_of(machine):
    """The numbers of the instructions and conversions."""
    return range(len(machine[2]) + len(machine[3]))


def reduced(machine, numbers):
    """The machine without some instructions and conversions."""
    first = len(machine[2])
    return machine[:2] + (
        tuple([row for at, row in enumerate(machine[2]) if at not in numbers]),
        tuple([row for at, row in enumerate(machine[3], start=first) if at not in numbers]),
    )


def repriced(machine, change):
    """The machine with change(number, price) in place of each price."""
    first = len(machine[2])
    return machine[:2] + (
        tuple([row[:-1] + (change(at, row[-1]),) for at, row in enumerate(machine[2])]),
        tuple([row[:-1] + (change(at, row[-1]),) for at, row in enumerate(machine[3], start=first)]),
    )


def priced(machine, number, price):
    """The machine with another price of one instruction or conversion."""
    return repriced(machine, lambda at, own: price if at == number else own)


def is_small(machine, most=40):
    """Whether the machine's states can be told and are at most so many."""
    try:
        return len(states(machine)) <= most
    except (Endless, TooMany):
        return False


def chance(seed):
    return random.Random(seed)


def asked_twice(test, function, *arguments):
    """Asks twice, sees that the answers are equal and that the arguments stay as they are, and returns the answer."""
    before = repr(arguments)
    kept = copy.deepcopy(arguments)
    first = function(*arguments)
    second = function(*arguments)
    test.assertEqual(repr(first), repr(second))
    test.assertEqual(repr(arguments), before)
    # An equal argument that is another object makes no difference.
    test.assertEqual(repr(function(*kept)), repr(first))
    return first
