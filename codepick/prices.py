"""The least prices of a tree in each form."""

from codepick.errors import NoPrices
from codepick.kinds import is_integer
from codepick.machines import MOST_FORMS, need_machine
from codepick.trees import need_tree


def cheapest(amounts):
    """The least of the amounts that are not None, or None."""
    return min([amount for amount in amounts if amount is not None], default=None)


def added(amounts):
    """All amounts added up, or None if one of them is None."""
    if any([amount is None for amount in amounts]):
        return None
    return sum(amounts)


def way_prices(machine):
    """For each form the list of the least prices of ways from it to each form, None where there is none.

    No price is below 0, so coming to a form twice never makes a way cheaper, and need not be ruled out.
    """
    forms = machine[1]
    ways = [[0 if here == there else None for there in range(forms)] for here in range(forms)]
    for start, end, price in machine[3]:
        ways[start][end] = cheapest([ways[start][end], price])
    for middle in range(forms):
        for start in range(forms):
            for end in range(forms):
                around = added([ways[start][middle], ways[middle][end]])
                ways[start][end] = cheapest([ways[start][end], around])
    return ways


def price_made(machine, form, operator, rows):
    """The least price at which instructions leave an operator over parts with these rows in form."""
    amounts = []
    for made, computed, arguments, price in machine[2]:
        if made == form and computed == operator:
            amounts.append(added([price] + [row[wanted] for row, wanted in zip(rows, arguments)]))
    return cheapest(amounts)


def row_of_node(machine, ways, operator, rows):
    """The least price in each form of an operator over parts with these rows."""
    forms = machine[1]
    made = [price_made(machine, form, operator, rows) for form in range(forms)]
    row = []
    for end in range(forms):
        row.append(cheapest([added([price, way[end]]) for price, way in zip(made, ways)]))
    return tuple(row)


def prices(machine, tree):
    """The least price of a cover of the tree in each form, None where there is none."""
    need_machine(machine)
    need_tree(machine[0], tree)
    ways = way_prices(machine)
    # One row for each written node is enough, however often its part stands in the tree.
    rows = []
    for node in tree:
        rows.append(row_of_node(machine, ways, node[0], [rows[part] for part in node[1:]]))
    return rows[-1]


def is_row(thing):
    """Whether thing is a row of one to four prices or None."""
    return (
        isinstance(thing, tuple)
        and 1 <= len(thing) <= MOST_FORMS
        and all([price is None or (is_integer(price) and price >= 0) for price in thing])
    )


def relative(row):
    """The state of a row, each price less the least one, and this least price."""
    if not is_row(row):
        raise NoPrices("no row of one to four prices")
    base = cheapest(row)
    return tuple([None if price is None else price - base for price in row]), base
