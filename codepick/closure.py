"""All that trees come to, where it is found from what the arguments' parts come to.

The trees are far too many to be gone through, but what they come to (states, pairs of
states) is not: each one found is combined with all that were found before it.
"""

from codepick.prices import added
from codepick.trees import trimmed


class Closure:
    """What was found, in this order; each one is known by its place.

    written has for each one a node over the places of earlier ones, so that they are written
    as trees are. table has for each operator a dict from the arguments' places to the pair
    (place, growth), and whole tells whether it has all combinations.
    """

    def __init__(self, arities):
        self.found = []
        self.places = {}
        self.written = []
        self.table = [{} for arity in arities]
        self.whole = True


def combinations(arities, last):
    """All (operator, arguments' places) of which the greatest place is last, -1 if there are no arguments."""
    rows = []
    for operator, arity in enumerate(arities):
        if arity == 0 and last < 0:
            rows.append((operator, ()))
        elif arity == 1 and last >= 0:
            rows.append((operator, (last,)))
        elif arity == 2 and last >= 0:
            rows.extend([(operator, (last, place)) for place in range(last + 1)])
            rows.extend([(operator, (place, last)) for place in range(last)])
    return rows


def enter(closure, operator, arguments, value, growth):
    """Notes what a combination comes to, and tells whether it is a new one."""
    is_new = value not in closure.places
    if is_new:
        closure.places[value] = len(closure.found)
        closure.found.append(value)
        closure.written.append((operator, *arguments))
    closure.table[operator][arguments] = closure.places[value], growth
    return is_new


def closed(arities, combine, is_enough):
    """The closure under combine(operator, values), which returns (value, growth).

    It ends unfinished as soon as is_enough(found) holds for all that was found so far.
    """
    closure = Closure(arities)
    last = -1
    while last < len(closure.found):
        for operator, arguments in combinations(arities, last):
            value, growth = combine(operator, [closure.found[place] for place in arguments])
            if enter(closure, operator, arguments, value, growth) and is_enough(closure.found):
                closure.whole = False
                return closure
        last += 1
    return closure


def transitions(closure):
    """Goes through (operator, arguments' places, place, growth) of all combinations."""
    for operator, row in enumerate(closure.table):
        for arguments, (place, growth) in row.items():
            yield operator, arguments, place, growth


def tree_at(closure, place):
    """A tree that comes to what has this place."""
    return trimmed(closure.written[:place + 1])


def sums_of_nodes(closure, tree):
    """For each written node (place, sum), where sum is all growths in its part, None if one of them is None."""
    found = []
    for operator, *parts in tree:
        place, growth = closure.table[operator][tuple([found[part][0] for part in parts])]
        found.append((place, added([growth] + [found[part][1] for part in parts])))
    return found
