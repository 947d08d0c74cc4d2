"""The states of a machine: how prices of a tree are apart."""

from codepick.closure import closed, tree_at
from codepick.errors import Endless, NoOperator, NoStates, TooMany
from codepick.kinds import is_integer
from codepick.machines import is_operator, need_machine
from codepick.prices import Rules, row_of_node, state_and_base

# With so many forms it is told whether there are infinitely many states, with more just up to MOST_STATES.
DECIDED_FORMS = 2
MOST_STATES = 200
# Prices that are further apart than so many times the greatest one of the machine show infinitely many states.
FAR_TIMES = 3


def is_state(forms, thing):
    """Whether thing is a state for so many forms, though perhaps of no tree."""
    if not isinstance(thing, tuple) or len(thing) != forms:
        return False
    known = [price for price in thing if price is not None]
    return all([is_integer(price) for price in known]) and min(known, default=0) == 0


def step(machine, operator, arguments):
    """The state of an operator over parts with these states, and the growth of the base."""
    need_machine(machine)
    arities, forms = machine[:2]
    if not is_operator(arities, operator):
        raise NoOperator("no operator of the machine")
    if not isinstance(arguments, tuple) or len(arguments) != arities[operator]:
        raise NoStates("not as many states as the operator has arguments")
    if not all([is_state(forms, state) for state in arguments]):
        raise NoStates("no state for the forms of the machine")
    return state_and_base(row_of_node(Rules(machine), operator, arguments))


def far_apart(machine):
    """How far two prices of a tree can be apart at most if the states are finitely many."""
    return FAR_TIMES * max([row[-1] for row in machine[2] + machine[3]], default=0)


def apart(state):
    """How far the prices of a state are apart, 0 if there are not two."""
    # The least one of them is 0.
    return max([price for price in state if price is not None], default=0)


def explored(machine):
    """The closure of the states, unfinished where they cannot be told.

    Its last state is then far apart, with one or two forms, or the first one too many.
    """
    rules = Rules(machine)
    far = far_apart(machine)

    def combine(operator, parts):
        return state_and_base(row_of_node(rules, operator, parts))

    if machine[1] <= DECIDED_FORMS:
        return closed(machine[0], combine, lambda found: apart(found[-1]) > far)
    return closed(machine[0], combine, lambda found: len(found) > MOST_STATES)


def told_states(machine):
    """The closure of the states, where they can be told."""
    closure = explored(machine)
    if closure.whole:
        return closure
    if machine[1] <= DECIDED_FORMS:
        raise Endless("infinitely many states")
    raise TooMany(MOST_STATES + 1, MOST_STATES)


def few_states(machine, most):
    """The closure of the states, where they can be told and are at most so many."""
    closure = told_states(machine)
    amount = len(closure.found)
    if amount > most:
        raise TooMany(amount, most)
    return closure


def state_order(state):
    """What states are ordered by: None is as if greater than all integers."""
    return tuple([(price is None, 0 if price is None else price) for price in state])


def states(machine):
    """All states of the machine."""
    need_machine(machine)
    return tuple(sorted(told_states(machine).found, key=state_order))


def state_tree(machine, state):
    """Some tree with this state."""
    need_machine(machine)
    closure = told_states(machine)
    if not is_state(machine[1], state) or state not in closure.places:
        raise NoStates("no state of the machine")
    return tree_at(closure, closure.places[state])
