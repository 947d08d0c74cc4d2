"""Values that several tests use."""

import copy
import random

from codepick.errors import NoTree, TooMany

NEAR = ((0, 2), 2, ((0, 0, (), 1), (1, 0, (), 0), (0, 1, (1, 1), 0), (1, 1, (0, 0), 1), (0, 1, (0, 0), 0)), ())
NEAR_TREE = ((0,), (1, 0, 0), (1, 1, 0))

# The smallest machine, and one with everything at its limit but the numbers of instructions and conversions.
SMALL = ((0,), 1, ((0, 0, (), 0),), ())
WIDE = (
    (0, 1, 2, 0, 1, 2),
    4,
    ((0, 0, (), 20), (3, 1, (2,), 0), (1, 5, (3, 0), 7), (0, 0, (), 20)),
    ((0, 3, 20), (3, 2, 0), (1, 0, 5), (0, 3, 20)),
)


def deep(kind, depth):
    thing = kind()
    for level in range(depth - 1):
        thing = kind((thing,))
    return thing


def wrong_values():
    """Values of every kind, none of which is right in any place of a machine, a tree, a row or arities."""
    return [
        -1, -(10**20 - 1), 10**20 - 1, True, False,
        "", "0", "a text\n", "(0,)", "x" * 4000,
        [], [0], [[0], [1]], [None], list(NEAR), list(NEAR_TREE),
        {}, {0: 1}, {"forms": 1}, {(0,): [()]},
        (True,), (False,), (-1,), ("",), ([],), ({},), ((),), (((0,),),), ((True,),), ((None,),),
        (7,) * 4000, [0] * 4000, {number: None for number in range(1900)},
        deep(tuple, 20), deep(list, 20), [True, [None, {"a": (1, "b")}]],
        NoTree(), NoTree("a message"), TooMany(2, 1), (NoTree(),),
    ]


def places(value, place=()):
    """All places in nested tuples, each a tuple of indexes."""
    found = [place]
    if isinstance(value, tuple):
        for at, part in enumerate(value):
            found += places(part, place + (at,))
    return found


def part_at(value, place):
    for at in place:
        value = value[at]
    return value


def replaced(value, place, new):
    """The nested tuple with another value at a place."""
    if not place:
        return new
    at = place[0]
    return value[:at] + (replaced(value[at], place[1:], new),) + value[at + 1:]


def spoiled(value):
    """Many values, each of them the given nested tuple with something wrong in one place."""
    found = []
    for place in places(value):
        part = part_at(value, place)
        for wrong in wrong_values() + [likeness(part)]:
            found.append(replaced(value, place, wrong))
        if not isinstance(part, tuple):
            found.append(replaced(value, place, (part,)))
            found.append(replaced(value, place, str(part)))
    return found


def likeness(part):
    """A value of another kind that Python holds for equal, or as good as equal."""
    if isinstance(part, tuple):
        return list(part)
    return {0: False, 1: True}.get(part, float(part or 0))


def chain(operator, length):
    """A tree of one leaf, of operator 0, and above it nodes of an operator with one argument."""
    return ((0,),) + tuple([(operator, at) for at in range(length - 1)])


def doubled(operator, length):
    """A tree with so many written nodes, each but the first naming the one before it twice."""
    return ((0,),) + tuple([(operator, at, at) for at in range(length - 1)])


def unshared(tree, at=-1):
    """The tree as nested tuples (operator, part, ..)."""
    node = tree[at]
    return (node[0],) + tuple([unshared(tree, part) for part in node[1:]])


def some_tree(chance, arities, most):
    """A tree with up to most written nodes, shared and needless ones among them; operator 0 is a leaf."""
    tree = [(0,)]
    for at in range(1, chance.randint(1, most)):
        operator = chance.randrange(len(arities))
        tree.append((operator,) + tuple([chance.randrange(at) for argument in range(arities[operator])]))
    return tuple(tree)


def some_machine(chance, instructions=8, conversions=5):
    """A machine of which operator 0 is a leaf."""
    arities = (0,) + tuple([chance.randint(0, 2) for operator in range(chance.randint(0, 3))])
    forms = chance.randint(1, 4)
    rows = []
    for number in range(chance.randint(0, instructions)):
        operator = chance.randrange(len(arities))
        arguments = tuple([chance.randrange(forms) for argument in range(arities[operator])])
        rows.append((chance.randrange(forms), operator, arguments, chance.choice((0, 1, 2, 3, 5, 20))))
    steps = []
    for number in range(chance.randint(0, conversions) if forms > 1 else 0):
        start, end = chance.sample(range(forms), 2)
        steps.append((start, end, chance.choice((0, 1, 2, 7, 20))))
    return arities, forms, tuple(rows), tuple(steps)


def chance(seed):
    return random.Random(seed)


def asked_twice(test, function, *arguments):
    """Asks twice, sees that the answers are equal and that the arguments stay as they are, and returns the answer."""
    before = repr(arguments)
    kept = copy.deepcopy(arguments)
    first = function(*arguments)
    second = function(*arguments)
    test.assertEqual(repr(first), repr(second))
    test.assertEqual(repr(arguments), before)
    # An equal argument that is another object makes no difference.
    test.assertEqual(repr(function(*kept)), repr(first))
    return first
