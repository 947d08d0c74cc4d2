"""How many trees with a number of nodes have each state, and their goal prices.

The trees are far too many to be gone through. What is told of those with the same number of
nodes and the same state is a tally: (how many they are, the sum of their bases, the least
base, the greatest one).
"""

from codepick.chooser import few_states
from codepick.errors import NoNodes
from codepick.kinds import is_between
from codepick.machines import MOST_ARGUMENTS, need_machine

MOST_COUNTED_STATES = 40
MOST_NODES = 20
# What is told of no part at all.
NO_PARTS = (1, 0, 0, 0)


def joined(one, other):
    """The tally of all pairs of trees of one and other, with their bases added up."""
    return one[0] * other[0], one[1] * other[0] + one[0] * other[1], one[2] + other[2], one[3] + other[3]


def grown(tally, growth):
    """The tally of as many trees, where each base is greater by growth."""
    # Without prices there is no base. Nothing above such a part has one, so that it does not matter what is told.
    more = 0 if growth is None else growth
    return tally[0], tally[1] + tally[0] * more, tally[2] + more, tally[3] + more


def enter(tallies, key, tally):
    """Adds the trees of a tally to those that have this key."""
    known = tallies.get(key)
    if known is not None:
        tally = known[0] + tally[0], known[1] + tally[1], min(known[2], tally[2]), max(known[3], tally[3])
    tallies[key] = tally


def parts_with(by_size, many, size):
    """The tallies of so many parts with so many nodes together, by the places of their states."""
    if many == 0:
        return {(): NO_PARTS} if size == 0 else {}
    tallies = {}
    for last in range(1, size - many + 2):
        for before, tally in parts_with(by_size, many - 1, size - last).items():
            for place, more in by_size[last].items():
                enter(tallies, (*before, place), joined(tally, more))
    return tallies


def tallies_of(closure, nodes):
    """The tallies of all trees with so many nodes, by the places of their states."""
    by_size = [{}]
    for size in range(1, nodes + 1):
        parts = [parts_with(by_size, many, size - 1) for many in range(MOST_ARGUMENTS + 1)]
        tallies = {}
        for operator, row in enumerate(closure.table):
            for arguments, (place, growth) in row.items():
                tally = parts[len(arguments)].get(arguments)
                if tally is not None:
                    enter(tallies, place, grown(tally, growth))
        by_size.append(tallies)
    return by_size[nodes]


def counted_states(machine, nodes):
    """The states and tallies of all trees with so many nodes."""
    need_machine(machine)
    if not is_between(nodes, 1, MOST_NODES):
        raise NoNodes("no number of nodes from 1 to 20")
    closure = few_states(machine, MOST_COUNTED_STATES)
    return [(closure.found[place], tally) for place, tally in tallies_of(closure, nodes).items()]


def by_state(machine, nodes):
    """A dict of how many trees with so many nodes have each state."""
    return {state: tally[0] for state, tally in counted_states(machine, nodes)}


def goal_tallies(machine, nodes):
    """The tallies of all trees with so many nodes that have a goal price, with this instead of the base."""
    return [grown(tally, state[0]) for state, tally in counted_states(machine, nodes) if state[0] is not None]


def total(machine, nodes):
    """How many trees with so many nodes have a goal price, and all their goal prices together."""
    tallies = goal_tallies(machine, nodes)
    return sum([tally[0] for tally in tallies]), sum([tally[1] for tally in tallies])


def extremes(machine, nodes):
    """The least and the greatest goal price of trees with so many nodes, None if none has one."""
    tallies = goal_tallies(machine, nodes)
    if not tallies:
        return None
    return min([tally[2] for tally in tallies]), max([tally[3] for tally in tallies])
