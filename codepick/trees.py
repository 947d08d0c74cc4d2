"""What a tree is, how great it is, and how it is spelled.

A short tuple can write a tree with very many nodes. So whatever is found of a tree
is found once for each written node, and never by going through the tree itself.
"""

from codepick.errors import NoArities, NoTree, TooMany, Unspelled
from codepick.kinds import is_between
from codepick.machines import is_arities, is_operator

MOST_SPELLED = 200


def need_arities(arities):
    """Refuses what is no tuple of arities."""
    if not is_arities(arities):
        raise NoArities("no arities")


def is_node(arities, place, thing):
    """Whether thing may be written at this place of a tree."""
    return (
        isinstance(thing, tuple)
        and len(thing) > 0
        and is_operator(arities, thing[0])
        and len(thing) == 1 + arities[thing[0]]
        and all([is_between(part, 0, place - 1) for part in thing[1:]])
    )


def is_tree(arities, thing):
    """Whether thing, any value, is a tree for these arities."""
    need_arities(arities)
    return (
        isinstance(thing, tuple)
        and len(thing) > 0
        and all([is_node(arities, place, node) for place, node in enumerate(thing)])
    )


def need_tree(arities, tree):
    """Refuses what is no tuple of arities, then what is no tree for them."""
    if not is_tree(arities, tree):
        raise NoTree("no tree for these arities")


def nodes(arities, tree):
    """The number of nodes of the tree, each part counted as often as it stands there."""
    need_tree(arities, tree)
    counts = []
    for node in tree:
        counts.append(1 + sum([counts[part] for part in node[1:]]))
    return counts[-1]


def height(arities, tree):
    """The number of nodes on a longest path from the last one."""
    need_tree(arities, tree)
    heights = []
    for node in tree:
        heights.append(1 + max([heights[part] for part in node[1:]], default=0))
    return heights[-1]


def same(arities, one, other):
    """Whether two trees are the same, however they are written."""
    need_tree(arities, one)
    need_tree(arities, other)
    # Equal parts get equal numbers, across both trees, so that no part is compared twice.
    numbers = {}
    ends = []
    for tree in (one, other):
        found = []
        for node in tree:
            part = (node[0], *[found[place] for place in node[1:]])
            found.append(numbers.setdefault(part, len(numbers)))
        ends.append(found[-1])
    return ends[0] == ends[1]


def trimmed(tree):
    """The tree with just those nodes written that its last one needs."""
    needed = {len(tree) - 1: True}
    for at in reversed(range(len(tree))):
        if at in needed:
            needed.update({part: True for part in tree[at][1:]})
    places = {at: place for place, at in enumerate(sorted(needed))}
    return tuple([(tree[at][0], *[places[part] for part in tree[at][1:]]) for at in sorted(needed)])


def spelled(arities, tree):
    """The operators of a tree with at most 200 nodes, in prefix order."""
    amount = nodes(arities, tree)
    if amount > MOST_SPELLED:
        raise TooMany(amount, MOST_SPELLED)
    operators = []
    waiting = [len(tree) - 1]
    while waiting:
        node = tree[waiting.pop()]
        operators.append(node[0])
        # The first argument is to be taken next, so it goes on top.
        waiting.extend(node[:0:-1])
    return tuple(operators)


def unspelled(arities, operators):
    """The tree that is spelled by operators in prefix order, written in postfix order."""
    need_arities(arities)
    if not is_spelling(arities, operators):
        raise Unspelled("not up to 200 operators")
    tree = []
    # Nodes that are still short of arguments, the innermost one last.
    waiting = []
    for operator in operators:
        if tree and not waiting:
            raise Unspelled("operators behind the end of the tree")
        waiting.append([operator])
        while waiting and len(waiting[-1]) == 1 + arities[waiting[-1][0]]:
            tree.append(tuple(waiting.pop()))
            if waiting:
                waiting[-1].append(len(tree) - 1)
    if waiting or not tree:
        raise Unspelled("too few operators")
    return tuple(tree)


def is_spelling(arities, thing):
    """Whether thing is a tuple of up to 200 operators."""
    return (
        isinstance(thing, tuple)
        and len(thing) <= MOST_SPELLED
        and all([is_operator(arities, operator) for operator in thing])
    )
