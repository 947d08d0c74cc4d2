"""What covers may choose: ways, and pairs of an instruction and a way."""


def ways_from(machine, start):
    """All ways from a form, as (way, forms come to, price)."""
    first = len(machine[2])
    ways = [((), (start,), 0)]
    at = 0
    while at < len(ways):
        way, visited, price = ways[at]
        for number, (here, there, cost) in enumerate(machine[3]):
            if here == visited[-1] and there not in visited:
                ways.append(((*way, first + number), (*visited, there), price + cost))
        at += 1
    return ways


def ways_between(machine):
    """For each form and each form behind it the list of all (way, price), as tuples compare."""
    forms = machine[1]
    found = [[[] for end in range(forms)] for start in range(forms)]
    for start in range(forms):
        for way, visited, price in sorted(ways_from(machine, start)):
            found[start][visited[-1]].append((way, price))
    return found


def choices_of(machine):
    """For each operator and each form wanted all pairs that a cover may have, as tuples compare.

    They are a dict from the pair (instruction, way) to (forms of the arguments, price of both).
    """
    forms = machine[1]
    ways = ways_between(machine)
    choices = [[{} for wanted in range(forms)] for arity in machine[0]]
    for number, (form, operator, arguments, price) in enumerate(machine[2]):
        for wanted in range(forms):
            for way, cost in ways[form][wanted]:
                choices[operator][wanted][number, way] = arguments, price + cost
    return choices
