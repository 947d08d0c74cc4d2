"""How contexts lead from state to state.

A move is a context of one step, of which only the states of the siblings' trees are told.
"""

from codepick.closure import tree_at


class Moves:
    """All moves of a closure of states, told by their numbers.

    steps has for each one (operator, argument, places of the siblings' states), and rows for
    each state's place the (place, growth) to which each one leads. Growths are told without
    the prices of the siblings: these are the same, whatever is in the hole. goals has the
    price of the goal in each state.
    """

    def __init__(self, arities, closure):
        self.closure = closure
        self.goals = [state[0] for state in closure.found]
        self.steps = steps_over(arities, len(closure.found))
        self.rows = []
        for place in range(len(closure.found)):
            row = []
            for operator, argument, siblings in self.steps:
                places = (*siblings[:argument], place, *siblings[argument:])
                row.append(closure.table[operator][places])
            self.rows.append(row)
        self.rests, self.firsts = least_rests(self.goals, self.rows)


def steps_over(arities, many):
    """All steps of moves over so many states."""
    steps = []
    for operator, arity in enumerate(arities):
        if arity == 1:
            steps.append((operator, 0, ()))
        elif arity == 2:
            steps.extend([(operator, argument, (sibling,)) for argument in range(2) for sibling in range(many)])
    return steps


def least_rests(goals, rows):
    """For each state the least sum of growths up to a goal price and this price, None where there is none.

    Behind these comes for each state the number of the first move of such a context, None
    where it is empty.
    """
    rests = list(goals)
    firsts = [None for goal in goals]
    changed = True
    while changed:
        changed = False
        for place, row in enumerate(rows):
            for number, (target, growth) in enumerate(row):
                if rests[target] is not None and is_less(growth + rests[target], rests[place]):
                    rests[place] = growth + rests[target]
                    firsts[place] = number
                    changed = True
    return rests, firsts


def is_less(amount, other):
    """Whether an amount is less than another one, which may be None, as if greater than all."""
    return other is None or amount < other


def numbered(things):
    """The things' numbers, where equal ones have the same number."""
    numbers = {}
    return [numbers.setdefault(thing, len(numbers)) for thing in things]


def extra_at_goal(moves, place):
    """By how much the goal price of a state is greater than its least rest, None where it has none."""
    goal = moves.goals[place]
    return None if goal is None else goal - moves.rests[place]


def extras_of_moves(moves, place):
    """By how much each move makes the least rest of a state greater, None where it leads to no goal price."""
    extras = []
    for target, growth in moves.rows[place]:
        rest = moves.rests[target]
        extras.append(None if rest is None else growth + rest - moves.rests[place])
    return extras


def labels_of(moves):
    """For each state a number, the same one for those with the same extras at the goal and on all moves.

    A rest is the least one and all extras up to the goal. So states of which the rests always
    differ by the same amount have the same extras.
    """
    labels = []
    for place in range(len(moves.rows)):
        labels.append((extra_at_goal(moves, place), tuple(extras_of_moves(moves, place))))
    return numbered(labels)


def classes_of(moves):
    """For each state a number, the same one for those that are interchangeable."""
    numbers = []
    finer = labels_of(moves)
    # Equal things are numbered in the order in which they come, so that the same classes have the same numbers.
    while finer != numbers:
        numbers = finer
        targets = [tuple([numbers[target] for target, growth in row]) for row in moves.rows]
        finer = numbered(list(zip(numbers, targets)))
    return numbers


def parting_path(moves, pair, labels):
    """The moves of a shortest context that leads from a pair of states to different labels, and this pair, or None."""
    before = {pair: None}
    waiting = [pair]
    at = 0
    while at < len(waiting):
        here, there = waiting[at]
        if labels[here] != labels[there]:
            return path_to(before, waiting[at]), waiting[at]
        for number, (one, other) in enumerate(zip(moves.rows[here], moves.rows[there])):
            reached = one[0], other[0]
            # Nothing tells equal states from one another.
            if one[0] != other[0] and reached not in before:
                before[reached] = waiting[at], number
                waiting.append(reached)
        at += 1
    return None


def path_to(before, pair):
    """The moves that lead to a pair, where before has the pair and the move that come before each one."""
    path = []
    while before[pair] is not None:
        pair, number = before[pair]
        path.append(number)
    return path[::-1]


def least_path(moves, place):
    """The moves of a context with the least rest of a state."""
    path = []
    while moves.firsts[place] is not None:
        path.append(moves.firsts[place])
        place = moves.rows[place][path[-1]][0]
    return path


def context_of(moves, path):
    """A context of these moves."""
    context = []
    for number in path:
        operator, argument, siblings = moves.steps[number]
        context.append((operator, argument, tuple([tree_at(moves.closure, sibling) for sibling in siblings])))
    return tuple(context)


def rest_on(moves, place, path):
    """The sum of growths of a state on a path to a goal price, and this price."""
    total = 0
    for number in path:
        place, growth = moves.rows[place][number]
        total += growth
    return total + moves.goals[place]
