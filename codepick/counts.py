"""How many covers there are at each price.

Here, counts are a list that has at each place how many there are with this price. There may
be far too many covers to be gone through, but there are not many prices.
"""

from codepick.choices import choices_of, ways_between
from codepick.trees import trimmed


def plus(one, other):
    """The counts of what is counted in one or in other."""
    if len(one) < len(other):
        return plus(other, one)
    both = [here + there for here, there in zip(one, other)]
    return both + one[len(other):]


def times(one, other):
    """The counts of all pairs of what is counted in one and what is counted in other."""
    if not one or not other:
        return []
    if len(one) > len(other):
        return times(other, one)
    pairs = [0] * (len(one) + len(other) - 1)
    for price, many in enumerate(one):
        if many:
            end = price + len(other)
            pairs[price:end] = [before + many * more for before, more in zip(pairs[price:end], other)]
    return pairs


def pairs_at(one, other, price):
    """How many pairs times(one, other) has at this price, without finding all of them."""
    low = max(0, price + 1 - len(other))
    high = min(price, len(one) - 1)
    return sum([one[at] * other[price - at] for at in range(low, high + 1) if one[at]])


def counted(costs):
    """The counts of a list of prices."""
    counts = [0] * (max(costs, default=-1) + 1)
    for price in costs:
        counts[price] += 1
    return counts


class Counts:
    """The counts of the covers of all parts of a tree, in each form."""

    def __init__(self, machine, tree):
        self.written = trimmed(tree)
        self.choices = choices_of(machine)
        self.rows = []
        self.products = []
        ways = [[counted([price for way, price in row]) for row in rows] for rows in ways_between(machine)]
        for node in self.written:
            parts = [self.rows[part] for part in node[1:]]
            self.products.append(argument_counts(machine, node[0], parts))
            self.rows.append(counts_of_node(machine, ways, node[0], self.products[-1]))


def argument_counts(machine, operator, parts):
    """The counts of the arguments' covers together, for all forms in which an instruction takes them."""
    products = {}
    for form, computed, arguments, price in machine[2]:
        if computed == operator and arguments not in products:
            together = [1]
            for part, wanted in zip(parts, arguments):
                together = times(together, part[wanted])
            products[arguments] = together
    return products


def counts_of_node(machine, ways, operator, products):
    """The counts of the covers of an operator in each form."""
    forms = machine[1]
    made = [[] for form in range(forms)]
    for form, computed, arguments, price in machine[2]:
        if computed == operator and products[arguments]:
            made[form] = plus(made[form], [0] * price + products[arguments])
    row = []
    for wanted in range(forms):
        counts = []
        for form in range(forms):
            counts = plus(counts, times(made[form], ways[form][wanted]))
        row.append(counts)
    return row


class Walk:
    """The choices of a cover with a price, made one after another in prefix order.

    waiting has the parts still to come, the next one last: each with its place, the form
    wanted, and the counts of the covers of all parts that come behind it.
    """

    def __init__(self, counts, form, price):
        self.counts = counts
        self.left = price
        self.waiting = [(len(counts.written) - 1, form, [1])]

    def options(self):
        """All choices for the next node, as tuples compare, each (pair, how many covers go on so)."""
        at, form, behind = self.waiting[-1]
        known = {}
        found = []
        for pair, choice in self.counts.choices[self.counts.written[at][0]][form].items():
            if choice not in known:
                arguments, price = choice
                known[choice] = pairs_at(self.counts.products[at][arguments], behind, self.left - price)
            found.append((pair, known[choice]))
        return found

    def take(self, pair):
        """Makes this choice for the next node."""
        at, form, behind = self.waiting.pop()
        node = self.counts.written[at]
        arguments, price = self.counts.choices[node[0]][form][pair]
        self.left -= price
        parts = list(zip(node[1:], arguments))
        while parts:
            part, wanted = parts.pop()
            self.waiting.append((part, wanted, behind))
            # Nothing comes before the first part that would have to know it as coming behind.
            if parts:
                behind = times(behind, self.counts.rows[part][wanted])
