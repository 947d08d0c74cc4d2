"""Whether the states of a machine with one or two forms are finitely many."""

from codepick.chooser import DECIDED_FORMS, apart, explored, far_apart
from codepick.closure import tree_at
from codepick.errors import ManyForms
from codepick.kinds import is_integer
from codepick.machines import need_machine
from codepick.prices import prices, state_and_base
from codepick.trees import is_tree


def need_few_forms(machine):
    """Refuses what is no machine, then one with more than two forms."""
    need_machine(machine)
    if machine[1] > DECIDED_FORMS:
        raise ManyForms("more than two forms")


def finite(machine):
    """("finite", d) with the greatest difference of two prices of a tree, or ("endless", tree)."""
    need_few_forms(machine)
    closure = explored(machine)
    if closure.whole:
        return "finite", max([apart(state) for state in closure.found], default=0)
    return "endless", tree_at(closure, len(closure.found) - 1)


def shows_finite(machine, thing):
    """Whether thing, any value, is right as what finite returns."""
    need_few_forms(machine)
    if not isinstance(thing, tuple) or len(thing) != 2:
        return False
    word, shown = thing
    if word == "finite":
        return is_integer(shown) and finite(machine) == ("finite", shown)
    return word == "endless" and is_tree(machine[0], shown) and is_far(machine, shown)


def is_far(machine, tree):
    """Whether two prices of the tree are so far apart that there are infinitely many states."""
    state, base = state_and_base(prices(machine, tree))
    return apart(state) > far_apart(machine)
