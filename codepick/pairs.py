"""The pairs of states that trees have in two machines."""

from codepick.chooser import told_states
from codepick.closure import closed, transitions
from codepick.errors import OtherArities, TooMany
from codepick.machines import need_machine

MOST_PAIRS = 400


class Pairs:
    """The closure of the pairs, and the prices of the goal in both states of each.

    The growth of a combination is that in other less that in one, so that the growths in a
    tree add up to its difference. It is None where there is no difference.
    """

    def __init__(self, closure, goals):
        self.closure = closure
        self.goals = goals


def pairs_of(one, other):
    """The pairs of states that arise in two machines; refuses what cannot be compared."""
    need_machine(one)
    need_machine(other)
    if one[0] != other[0]:
        raise OtherArities("the machines do not have the same arities")
    here = told_states(one)
    there = told_states(other)

    def combine(operator, parts):
        first, grown = here.table[operator][tuple([pair[0] for pair in parts])]
        second, grown_too = there.table[operator][tuple([pair[1] for pair in parts])]
        growth = None if grown is None or grown_too is None else grown_too - grown
        return (first, second), growth

    closure = closed(one[0], combine, lambda found: len(found) > MOST_PAIRS)
    if not closure.whole:
        raise TooMany(MOST_PAIRS + 1, MOST_PAIRS)
    goals = [(here.found[first][0], there.found[second][0]) for first, second in closure.found]
    return Pairs(closure, goals)


def steps_up(closure):
    """For each place a dict from the places of arguments that a combination may have to come to it.

    Each leads to some such combination, as (operator, arguments' places, argument).
    """
    steps = [{} for value in closure.found]
    for operator, arguments, place, growth in transitions(closure):
        for argument, part in enumerate(arguments):
            if part not in steps[place]:
                steps[place][part] = operator, arguments, argument
    return steps


def leading(closure, goals):
    """A dict of the places from which some context leads to one of the goals, a list of places.

    Each leads to the first step of such a context, None where it is empty.
    """
    steps = steps_up(closure)
    leads = {goal: None for goal in goals}
    waiting = list(goals)
    while waiting:
        place = waiting.pop()
        for part, way in steps[place].items():
            if part not in leads:
                leads[part] = way
                waiting.append(part)
    return leads


def goals_in_both(pairs):
    """The places of the pairs with goal prices in both."""
    return [place for place, goals in enumerate(pairs.goals) if None not in goals]
