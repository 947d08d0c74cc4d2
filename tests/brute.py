"""What the document says, done by going through everything, without looking at the program.

Trees are nested tuples here, (operator, part, ..).
"""

import itertools


def all_trees(arities, most):
    """All nested trees with up to so many nodes, the small ones first."""
    by_size = [[]]
    for size in range(1, most + 1):
        found = []
        for operator, arity in enumerate(arities):
            for sizes in itertools.product(range(1, size), repeat=arity):
                if sum(sizes) == size - 1:
                    found += [(operator, *parts) for parts in itertools.product(*[by_size[many] for many in sizes])]
        by_size.append(found)
    return [tree for row in by_size for tree in row]


def written(nested):
    """The tree as it is written for the program, with one node for each."""
    rows = []

    def write(part):
        places = [write(inner) for inner in part[1:]]
        rows.append((part[0], *places))
        return len(rows) - 1

    write(nested)
    return tuple(rows)


def all_parts(nested, path=()):
    """All pairs (path, part), the tree itself with the empty path among them."""
    found = [(path, nested)]
    for place, part in enumerate(nested[1:]):
        found += all_parts(part, path + (place,))
    return found


def all_ways(machine, start, end):
    """All pairs (way, price) from a form to a form, found by trying every order of conversions."""
    first = len(machine[2])
    found = []
    for many in range(machine[1]):
        for numbers in itertools.permutations(range(len(machine[3])), many):
            steps = [machine[3][number] for number in numbers]
            visited = [start] + [step[1] for step in steps]
            linked = all(step[0] == here for step, here in zip(steps, visited))
            if linked and visited[-1] == end and len(set(visited)) == len(visited):
                found.append((tuple(first + number for number in numbers), sum(step[2] for step in steps)))
    return found


class Covers:
    """All covers of nested trees, written out one by one as pairs (cover, price)."""

    def __init__(self, machine):
        self.machine = machine
        self.ways = {}
        for start, end in itertools.product(range(machine[1]), repeat=2):
            self.ways[start, end] = all_ways(machine, start, end)

    def all_of(self, nested, form):
        found = []
        for number, (made, operator, arguments, price) in enumerate(self.machine[2]):
            if operator == nested[0]:
                parts = [self.all_of(part, wanted) for part, wanted in zip(nested[1:], arguments)]
                for way, cost in self.ways[made, form]:
                    for chosen in itertools.product(*parts):
                        cover = ((number, way),) + sum([inner for inner, amount in chosen], ())
                        found.append((cover, price + cost + sum([amount for inner, amount in chosen])))
        return found

    def in_order(self, nested, form):
        """All covers in the order of their numbers, by price, then as tuples compare."""
        return sorted(self.all_of(nested, form), key=lambda row: (row[1], row[0]))


def row_over(machine, operator, rows):
    """The least price in each form of an operator over parts with these rows."""
    best = []
    for form in range(machine[1]):
        amounts = []
        for made, computed, arguments, price in machine[2]:
            if computed == operator:
                parts = [row[wanted] for row, wanted in zip(rows, arguments)]
                if None not in parts:
                    amounts += [price + cost + sum(parts) for way, cost in all_ways(machine, made, form)]
        best.append(min(amounts, default=None))
    return tuple(best)


class Rows:
    """The rows of prices of nested trees, each found once for each combination of rows."""

    def __init__(self, machine):
        self.machine = machine
        self.known = {}

    def over(self, operator, rows):
        key = (operator, *rows)
        if key not in self.known:
            self.known[key] = row_over(self.machine, operator, rows)
        return self.known[key]

    def of(self, nested):
        return self.over(nested[0], [self.of(part) for part in nested[1:]])


def state_of(row):
    """The state and the base of a row."""
    base = min([price for price in row if price is not None], default=None)
    return tuple([None if price is None else price - base for price in row]), base


def rows_by_size(arities, machines, most):
    """For each number of nodes up to most all tuples of rows that a tree with so many has in the machines."""
    makers = [Rows(machine) for machine in machines]
    by_size = [{}]
    for size in range(1, most + 1):
        found = {}
        for operator, arity in enumerate(arities):
            for sizes in itertools.product(range(1, size), repeat=arity):
                if sum(sizes) == size - 1:
                    for parts in itertools.product(*[by_size[many] for many in sizes]):
                        rows = [rule.over(operator, [part[at] for part in parts]) for at, rule in enumerate(makers)]
                        found[tuple(rows)] = True
        by_size.append(found)
    return by_size
