"""What covers with the least price may take at a node, told of all trees at once.

It depends on the states of the arguments' parts alone. Forms are told as bits: 1 << form.
"""

from codepick.choices import ways_between
from codepick.closure import transitions
from codepick.prices import added


class Leasts:
    """For each combination of a closure of states what may be taken at its node.

    ways has for each form and each form behind it the ways with the least price. picks has
    for each operator a dict from the places of the arguments' states to a list of (number,
    start, ends, wanted): an instruction and the form in which it leaves its result, the forms
    in which a cover with the least price may begin with it, and the forms of its arguments.
    """

    def __init__(self, machine, closure):
        self.arities = machine[0]
        self.closure = closure
        rows = [[least_of(ways) for ways in row] for row in ways_between(machine)]
        self.ways = [[ways for price, ways in row] for row in rows]
        costs = [[price for price, ways in row] for row in rows]
        makers = makers_of(machine)
        self.picks = [{} for arity in machine[0]]
        for operator, arguments, place, growth in transitions(closure):
            parts = [closure.found[part] for part in arguments]
            row = [added([growth, price]) for price in closure.found[place]]
            self.picks[operator][arguments] = options_over(makers[operator], costs, parts, row)


def least_of(ways):
    """The least price of some (way, price), None if there are none, and the ways that have it."""
    least = min([price for way, price in ways], default=None)
    return least, [way for way, price in ways if price == least]


def makers_of(machine):
    """For each operator its instructions, each as (number, form, arguments, price)."""
    makers = [[] for arity in machine[0]]
    for number, (form, operator, arguments, price) in enumerate(machine[2]):
        makers[operator].append((number, form, arguments, price))
    return makers


def options_over(makers, costs, parts, row):
    """The options over parts with these states for a node with these prices."""
    options = []
    for number, start, wanted, price in makers:
        amount = added([price] + [part[form] for part, form in zip(parts, wanted)])
        ends = 0
        for end, least in enumerate(row):
            if least is not None and added([amount, costs[start][end]]) == least:
                ends += 1 << end
        if ends:
            options.append((number, start, ends, wanted))
    return options
