"""Whether covers with the least price can do without some instructions and conversions, for all trees at once.

For each tree it is enough to know its state, and the spared forms: those in which some cover
with the least price does without the numbers that are to be left out.
"""

from codepick.closure import combinations
from codepick.trees import trimmed


def free_ends(leasts, left_out):
    """For each form the forms to which some way with the least price leads without the numbers, as bits."""
    rows = []
    for row in leasts.ways:
        free = 0
        for end, ways in enumerate(row):
            if any([not any([number in left_out for number in way]) for way in ways]):
                free += 1 << end
        rows.append(free)
    return rows


def spared_over(options, left_out, free, parts):
    """The spared forms of a node with these options over parts with these spared forms."""
    spared = 0
    for number, start, ends, wanted in options:
        if number not in left_out and all([forms >> form & 1 for forms, form in zip(parts, wanted)]):
            spared |= ends & free[start]
    return spared


def tree_needing(leasts, numbers):
    """Some tree with a goal price of which each cover with the least price has one of the numbers, or None."""
    closure = leasts.closure
    left_out = {number: True for number in numbers}
    free = free_ends(leasts, left_out)
    # Pairs (place of the state, spared forms), and for each place the spared forms that were found.
    found = []
    written = []
    known = [[] for state in closure.found]
    last = -1
    while last < len(found):
        for operator, arguments in combinations(leasts.arities, last):
            places = tuple([found[part][0] for part in arguments])
            place = closure.table[operator][places][0]
            parts = [found[part][1] for part in arguments]
            spared = spared_over(leasts.picks[operator][places], left_out, free, parts)
            # What needs the numbers with more spared forms does so with fewer ones, too.
            if any([spared & fewer == fewer for fewer in known[place]]):
                continue
            known[place].append(spared)
            found.append((place, spared))
            written.append((operator, *arguments))
            if closure.found[place][0] is not None and not spared & 1:
                return trimmed(written)
        last += 1
    return None
