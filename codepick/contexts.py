"""Contexts: trees with a hole, and what they make of the state of a part in it."""

from codepick.chooser import is_state
from codepick.errors import NoContext, NoStates
from codepick.kinds import is_between
from codepick.machines import is_operator, need_machine
from codepick.prices import Rules, row_of_node, rows_by, state_and_base
from codepick.trees import is_tree, need_arities, need_tree


def is_step(arities, thing):
    """Whether thing is a step of a context."""
    if not isinstance(thing, tuple) or len(thing) != 3:
        return False
    operator, place, siblings = thing
    return (
        is_operator(arities, operator)
        and is_between(place, 0, arities[operator] - 1)
        and isinstance(siblings, tuple)
        and len(siblings) == arities[operator] - 1
        and all([is_tree(arities, sibling) for sibling in siblings])
    )


def is_context(arities, thing):
    """Whether thing, any value, is a context for these arities."""
    need_arities(arities)
    return isinstance(thing, tuple) and all([is_step(arities, step) for step in thing])


def need_context(arities, context):
    """Refuses what is no tuple of arities, then what is no context for them."""
    if not is_context(arities, context):
        raise NoContext("no context for these arities")


def put(arities, context, tree):
    """Some tree that is the context with the tree in its hole."""
    need_context(arities, context)
    need_tree(arities, tree)
    written = list(tree)
    for operator, place, siblings in context:
        parts = [len(written) - 1]
        for sibling in siblings:
            parts.append(len(written) + len(sibling) - 1)
            written.extend(moved(sibling, len(written)))
        # What was in the hole so far comes to stand at its place among the siblings.
        inner = parts.pop(0)
        parts.insert(place, inner)
        written.append((operator, *parts))
    return tuple(written)


def moved(tree, shift):
    """The nodes of a tree with places that are greater by shift, as they are to be written behind so many others."""
    return [(node[0], *[part + shift for part in node[1:]]) for node in tree]


def row_around(rules, context, row):
    """The least prices of a context with a part with this row in its hole."""
    for operator, place, siblings in context:
        rows = [rows_by(rules, sibling)[-1] for sibling in siblings]
        rows.insert(place, row)
        row = row_of_node(rules, operator, rows)
    return row


def goes(machine, context, state):
    """The state of a context with a part with this state in its hole, and the growth of the base."""
    need_machine(machine)
    need_context(machine[0], context)
    if not is_state(machine[1], state):
        raise NoStates("no state for the forms of the machine")
    # As a row, the state is that of a part with the base 0.
    return state_and_base(row_around(Rules(machine), context, state))
