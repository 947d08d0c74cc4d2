"""Interchangeable states, and contexts that part those that are not."""

from codepick.chooser import few_states, is_state, state_order
from codepick.contexts import is_context, row_around
from codepick.errors import NoStates
from codepick.machines import need_machine
from codepick.moves import (
    Moves, classes_of, context_of, extra_at_goal, extras_of_moves, labels_of, least_path, parting_path, rest_on,
)
from codepick.prices import Rules

MOST_CLASSED_STATES = 60


def moves_of(machine):
    """The moves of a machine; refuses what is none, and too many states."""
    need_machine(machine)
    return Moves(machine[0], few_states(machine, MOST_CLASSED_STATES))


def place_of(machine, moves, state):
    """The place of a state of the machine; refuses what is none."""
    places = moves.closure.places
    if not is_state(machine[1], state) or state not in places:
        raise NoStates("no state of the machine")
    return places[state]


def classes(machine):
    """The classes of interchangeable states."""
    moves = moves_of(machine)
    number_of_state = dict(zip(moves.closure.found, classes_of(moves)))
    rows = {}
    # In the order of states, so that each class and the classes themselves are in it, too.
    for state in sorted(moves.closure.found, key=state_order):
        rows.setdefault(number_of_state[state], []).append(state)
    return tuple([tuple(row) for row in rows.values()])


def parted(machine, state, other):
    """None for interchangeable states, or ("one", context) or ("two", context, context) that part them."""
    moves = moves_of(machine)
    pair = place_of(machine, moves, state), place_of(machine, moves, other)
    numbers = classes_of(moves)
    if numbers[pair[0]] == numbers[pair[1]]:
        return None
    found = parting_path(moves, pair, [goal is None for goal in moves.goals])
    if found is not None:
        return "one", context_of(moves, found[0])
    return ("two", *[context_of(moves, path) for path in two_paths(moves, pair)])


def two_paths(moves, pair):
    """Two paths on which the rests of two states differ by different amounts.

    They are no interchangeable ones, and no context leads to a goal price from just one of them.
    """
    odd = odd_path(moves, pair)
    # On the least paths of the two states these differ as their least rests do, or each time by more of its own other.
    path = least_path(moves, pair[0])
    if difference_on(moves, pair, path) == difference_on(moves, pair, odd):
        path = least_path(moves, pair[1])
    return path, odd


def odd_path(moves, pair):
    """A path on which the rests of two states differ by another amount than their least ones do."""
    path, (here, there) = parting_path(moves, pair, labels_of(moves))
    if extra_at_goal(moves, here) != extra_at_goal(moves, there):
        return path
    extras = list(zip(extras_of_moves(moves, here), extras_of_moves(moves, there)))
    number = [at for at, (one, other) in enumerate(extras) if one != other][0]
    one, other = extras[number]
    # Behind the move the cheaper one goes on without any extra, so that the other one does not come up with it.
    cheaper = here if one < other else there
    return path + [number] + least_path(moves, moves.rows[cheaper][number][0])


def difference_on(moves, pair, path):
    """The rest of the second state less that of the first one."""
    return rest_on(moves, pair[1], path) - rest_on(moves, pair[0], path)


def shows_parted(machine, state, other, thing):
    """Whether thing, any value, is right as what parted returns."""
    moves = moves_of(machine)
    here = place_of(machine, moves, state)
    there = place_of(machine, moves, other)
    if thing is None:
        numbers = classes_of(moves)
        return numbers[here] == numbers[there]
    if not isinstance(thing, tuple) or len(thing) < 2:
        return False
    word, *contexts = thing
    if not all([is_context(machine[0], context) for context in contexts]):
        return False
    rules = Rules(machine)
    rests = [tuple([row_around(rules, context, row)[0] for row in (state, other)]) for context in contexts]
    return shows_by_rests(word, rests)


def shows_by_rests(word, rests):
    """Whether a word fits the pairs of rests of two states in the contexts that stand behind it."""
    if word == "one":
        return len(rests) == 1 and (rests[0][0] is None) != (rests[0][1] is None)
    if word != "two" or len(rests) != 2 or None in rests[0] + rests[1]:
        return False
    return rests[0][1] - rests[0][0] != rests[1][1] - rests[1][0]
