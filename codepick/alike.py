"""Whether two machines are as good as one another for all trees, and how far apart they can come."""

from codepick.closure import sums_of_nodes, transitions, tree_at
from codepick.errors import TooMany
from codepick.kinds import is_between
from codepick.pairs import goals_in_both, leading, pairs_of
from codepick.prices import prices
from codepick.trees import is_tree, trimmed

MOST_MATTERING = 60


def goal_prices(one, other, tree):
    """The goal prices of a tree in both machines."""
    return prices(one, tree)[0], prices(other, tree)[0]


def is_only(goals):
    """Whether one of two goal prices is None, and the other one is not."""
    return (goals[0] is None) != (goals[1] is None)


def is_unlike(goals):
    """Whether two goal prices are prices and different."""
    return None not in goals and goals[0] != goals[1]


def compared(one, other):
    """("alike",), or ("only", tree) or ("unlike", tree) with a tree where they are not."""
    return told(one, other, pairs_of(one, other))


def told(one, other, pairs):
    """What compared returns of two machines with these pairs."""
    for place, goals in enumerate(pairs.goals):
        if is_only(goals):
            return "only", tree_at(pairs.closure, place)
    for tree in suspects(pairs):
        if is_unlike(goal_prices(one, other, tree)):
            return "unlike", tree
    return ("alike",)


def suspects(pairs):
    """Some trees of which one has different goal prices, if any tree has; none may have one in just one machine."""
    closure = pairs.closure
    goals = goals_in_both(pairs)
    differences = [difference for place, difference in sums_of_nodes(closure, closure.written)]
    for place in goals:
        here, there = pairs.goals[place]
        if differences[place] + there - here != 0:
            return [tree_at(closure, place)]
    leads = leading(closure, goals)
    for operator, arguments, place, growth in transitions(closure):
        if place in leads and growth + sum([differences[part] for part in arguments]) != differences[place]:
            # Two parts with this pair differ by different amounts, and so do two trees that have them in one context.
            nodes = [closure.written[place], (operator, *arguments)]
            return [continued(closure, leads, place, node) for node in nodes]
    return []


def continued(closure, leads, place, node):
    """A tree that comes to a goal: a node that comes to this place, in a context that leads from there."""
    written = closure.written + [node]
    while leads[place] is not None:
        operator, arguments, argument = leads[place]
        parts = list(arguments)
        parts[argument] = len(written) - 1
        written.append((operator, *parts))
        place = closure.table[operator][arguments][0]
    return trimmed(written)


def shows_compared(one, other, thing):
    """Whether thing, any value, is right as what compared returns."""
    # Machines that cannot be compared are refused whatever the thing is.
    pairs = pairs_of(one, other)
    if not isinstance(thing, tuple):
        return False
    if len(thing) == 1:
        return thing[0] == "alike" and told(one, other, pairs) == ("alike",)
    if len(thing) != 2 or not is_tree(one[0], thing[1]):
        return False
    goals = goal_prices(one, other, thing[1])
    if thing[0] == "only":
        return is_only(goals)
    return thing[0] == "unlike" and is_unlike(goals)


def mattering_to_both(pairs):
    """The pairs from which some context leads to goal prices in both, as leading tells them."""
    leads = leading(pairs.closure, goals_in_both(pairs))
    if len(leads) > MOST_MATTERING:
        raise TooMany(len(leads), MOST_MATTERING)
    return leads


def higher_sums(steps, sums):
    """A dict from places to the greatest sum of growths in a tree whose arguments' parts have these sums."""
    higher = {}
    for arguments, place, growth in steps:
        if all([part in sums for part in arguments]):
            amount = growth + sum([sums[part] for part in arguments])
            if place not in higher or amount > higher[place]:
                higher[place] = amount
    return higher


def greatest_sums(steps, many):
    """A dict from places to the greatest sum of growths in a tree, or None if some have no greatest one.

    steps are (arguments' places, place, growth) of all trees that come to one of so many
    places. In a tree that is higher than that, one of them comes twice on a path. If it is
    worth more than all trees that are not as high, then what stands between these two gains,
    and can be repeated without end.
    """
    sums = {}
    for height in range(many + 1):
        higher = higher_sums(steps, sums)
        if higher == sums:
            return sums
        sums = higher
    return None


def greatest_gap(steps, many, goals):
    """The greatest sum of growths in a tree and of what its goal, one of (place, amount), adds; None if none is."""
    sums = greatest_sums(steps, many)
    if sums is None:
        return None
    return max([sums[place] + amount for place, amount in goals])


def gap(one, other):
    """The least and the greatest value of the goal price in other less that in one; None for each without an end."""
    pairs = pairs_of(one, other)
    leads = mattering_to_both(pairs)
    if not leads:
        return None
    steps = [row[1:] for row in transitions(pairs.closure) if row[2] in leads]
    goals = [(place, pairs.goals[place][1] - pairs.goals[place][0]) for place in goals_in_both(pairs)]
    turned_steps = [(arguments, place, -growth) for arguments, place, growth in steps]
    least = greatest_gap(turned_steps, len(leads), [(place, -amount) for place, amount in goals])
    return None if least is None else -least, greatest_gap(steps, len(leads), goals)


def part_on_path(tree, path):
    """The place of the inner part to which a path leads from the last node, None if it is no such path."""
    if not isinstance(path, tuple) or len(path) == 0:
        return None
    at = len(tree) - 1
    for argument in path:
        if not is_between(argument, 0, len(tree[at]) - 2):
            return None
        at = tree[at][1 + argument]
    return at


def shows_gap(one, other, thing):
    """Whether thing, any value, is a (tree, path) that shows that the greatest value of gap has no end."""
    pairs = pairs_of(one, other)
    leads = mattering_to_both(pairs)
    if not isinstance(thing, tuple) or len(thing) != 2 or not is_tree(one[0], thing[0]):
        return False
    tree, path = thing
    part = part_on_path(tree, path)
    if part is None:
        return False
    sums = sums_of_nodes(pairs.closure, tree)
    return sums[-1][0] in leads and sums[part][0] == sums[-1][0] and sums[-1][1] > sums[part][1]
