"""The least prices of a tree in each form."""

from codepick.errors import NoPrices
from codepick.kinds import is_integer
from codepick.machines import MOST_FORMS, need_machine
from codepick.trees import need_tree


def cheapest(amounts):
    """The least of the amounts that are not None, or None."""
    return min([amount for amount in amounts if amount is not None], default=None)


def added(amounts):
    """All amounts added up, or None if one of them is None."""
    if any([amount is None for amount in amounts]):
        return None
    return sum(amounts)


def way_prices(machine):
    """For each form the list of the least prices of ways from it to each form, None where there is none.

    No price is below 0, so coming to a form twice never makes a way cheaper, and need not be ruled out.
    """
    forms = machine[1]
    ways = [[0 if here == there else None for there in range(forms)] for here in range(forms)]
    for start, end, price in machine[3]:
        ways[start][end] = cheapest([ways[start][end], price])
    for middle in range(forms):
        for start in range(forms):
            for end in range(forms):
                around = added([ways[start][middle], ways[middle][end]])
                ways[start][end] = cheapest([ways[start][end], around])
    return ways


class Rules:
    """What a machine tells of prices, sorted by operator: rows are found for very many nodes."""

    def __init__(self, machine):
        self.forms = machine[1]
        self.makers = [[] for arity in machine[0]]
        for form, operator, arguments, price in machine[2]:
            self.makers[operator].append((form, arguments, price))
        self.ways = []
        for start, row in enumerate(way_prices(machine)):
            self.ways.extend([(start, end, price) for end, price in enumerate(row) if price is not None])


def prices_made(rules, operator, rows):
    """The least price at which instructions leave an operator over parts with these rows in each form."""
    made = [None] * rules.forms
    for form, arguments, price in rules.makers[operator]:
        amount = price
        for row, wanted in zip(rows, arguments):
            if row[wanted] is None:
                break
            amount += row[wanted]
        else:
            if made[form] is None or amount < made[form]:
                made[form] = amount
    return made


def row_of_node(rules, operator, rows):
    """The least price in each form of an operator over parts with these rows."""
    made = prices_made(rules, operator, rows)
    row = [None] * rules.forms
    for start, end, price in rules.ways:
        if made[start] is not None and (row[end] is None or made[start] + price < row[end]):
            row[end] = made[start] + price
    return tuple(row)


def rows_of_nodes(machine, tree):
    """The least prices of each written node: one row is enough, however often its part stands in the tree."""
    return rows_by(Rules(machine), tree)


def rows_by(rules, tree):
    """The least prices of each written node by these rules."""
    rows = []
    for node in tree:
        rows.append(row_of_node(rules, node[0], [rows[part] for part in node[1:]]))
    return rows


def prices(machine, tree):
    """The least price of a cover of the tree in each form, None where there is none."""
    need_machine(machine)
    need_tree(machine[0], tree)
    return rows_of_nodes(machine, tree)[-1]


def is_row(thing):
    """Whether thing is a row of one to four prices or None."""
    return (
        isinstance(thing, tuple)
        and 1 <= len(thing) <= MOST_FORMS
        and all([price is None or (is_integer(price) and price >= 0) for price in thing])
    )


def state_and_base(row):
    """What relative tells of a row of prices, without checking it."""
    base = cheapest(row)
    return tuple([None if price is None else price - base for price in row]), base


def relative(row):
    """The state of a row, each price less the least one, and this least price."""
    if not is_row(row):
        raise NoPrices("no row of one to four prices")
    return state_and_base(row)
