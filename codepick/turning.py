"""At which prices of an instruction or conversion other covers become the cheapest ones."""

from codepick.choices import ways_between
from codepick.covers import need_few_nodes
from codepick.errors import NoPrice
from codepick.kinds import is_between
from codepick.machines import need_machine, need_number
from codepick.prices import rows_of_nodes
from codepick.trees import need_tree, trimmed

GREATEST_ASKED = 99

# Here, an amount is (price, fewest, most): the least price of some choices, and the least and
# the greatest number of uses at this price; None if there are no choices.


def either(one, other):
    """The amount of the choices of one or other."""
    if one is None or other is None:
        return other if one is None else one
    if one[0] != other[0]:
        return one if one[0] < other[0] else other
    return one[0], min(one[1], other[1]), max(one[2], other[2])


def both(one, other):
    """The amount of choices of one together with choices of other."""
    if one is None or other is None:
        return None
    return one[0] + other[0], one[1] + other[1], one[2] + other[2]


def with_price(machine, number, price):
    """The machine with another price of one instruction or conversion, which may be greater than those of machines."""
    arities, forms, instructions, conversions = machine
    first = len(instructions)
    return (
        arities,
        forms,
        tuple([(*row[:-1], price) if at == number else row for at, row in enumerate(instructions)]),
        tuple([(*row[:-1], price) if first + at == number else row for at, row in enumerate(conversions)]),
    )


def ways_amounts(machine, number):
    """For each form and each form behind it the amount of the ways."""
    rows = []
    for row in ways_between(machine):
        amounts = []
        for ways in row:
            amount = None
            for way, price in ways:
                # No way has a number twice: it would come to a form twice.
                uses = int(number in way)
                amount = either(amount, (price, uses, uses))
            amounts.append(amount)
        rows.append(amounts)
    return rows


def amounts_of_node(machine, number, ways, operator, parts):
    """The amount in each form of an operator over parts with these amounts."""
    row = [None] * machine[1]
    for at, (form, computed, arguments, price) in enumerate(machine[2]):
        if computed == operator:
            uses = int(at == number)
            amount = price, uses, uses
            for part, wanted in zip(parts, arguments):
                amount = both(amount, part[wanted])
            for end, way in enumerate(ways[form]):
                row[end] = either(row[end], both(amount, way))
    return row


def goal_amount(machine, tree, number, price):
    """The amount of the covers of a tree, with this price of an instruction or conversion, and uses of it."""
    turned = with_price(machine, number, price)
    ways = ways_amounts(turned, number)
    rows = []
    for node in trimmed(tree):
        rows.append(amounts_of_node(turned, number, ways, node[0], [rows[part] for part in node[1:]]))
    return rows[-1][0]


def need_turnable(machine, tree, number):
    """Refuses what is no machine, no tree, or no number of an instruction or conversion."""
    need_machine(machine)
    need_tree(machine[0], tree)
    need_number(machine, number)


def turns(machine, tree, number):
    """The ascending (price, least price of the goal) between which the latter is straight, () without a cover."""
    need_turnable(machine, tree, number)
    need_few_nodes(machine[0], tree)
    shown = trimmed(tree)
    goals = [rows_of_nodes(with_price(machine, number, price), shown)[-1][0] for price in range(GREATEST_ASKED + 1)]
    if goals[0] is None:
        return ()
    return tuple([(price, goal) for price, goal in enumerate(goals) if is_turn(goals, price)])


def is_turn(goals, price):
    """Whether the least price of the goal, told for each price, is not straight around this one."""
    if price in (0, GREATEST_ASKED):
        return True
    return goals[price + 1] - goals[price] < goals[price] - goals[price - 1]


def uses(machine, tree, number, price):
    """The least and the greatest number of uses in covers with the least price, None without a cover."""
    need_turnable(machine, tree, number)
    if not is_between(price, 0, GREATEST_ASKED):
        raise NoPrice("no price from 0 to 99")
    need_few_nodes(machine[0], tree)
    amount = goal_amount(machine, tree, number, price)
    return None if amount is None else amount[1:]


def given_up(machine, tree, number):
    """The least price at which no cover with the least price has a use, None if there is none up to 99."""
    need_turnable(machine, tree, number)
    need_few_nodes(machine[0], tree)
    for price in range(GREATEST_ASKED + 1):
        amount = goal_amount(machine, tree, number, price)
        if amount is None or amount[2] == 0:
            return price
    return None
