"""Which instructions and conversions some tree needs, and which are used at all."""

from codepick.chooser import few_states
from codepick.errors import NoNumbers, TooMany
from codepick.leasts import Leasts
from codepick.machines import amount_of_rows, is_number, need_machine, need_number
from codepick.prices import prices
from codepick.sparing import tree_needing
from codepick.trees import is_tree

MOST_NEEDED_STATES = 40
MOST_CHOSEN = 8


def leasts_of(machine):
    """What covers with the least price may take; refuses too many states."""
    return Leasts(machine, few_states(machine, MOST_NEEDED_STATES))


def needless(machine):
    """The ascending numbers of the instructions and conversions that no tree needs."""
    need_machine(machine)
    return needless_among(machine, leasts_of(machine))


def needless_among(machine, leasts):
    """The ascending numbers that no tree needs, where what covers may take is known."""
    return tuple([number for number in range(amount_of_rows(machine)) if tree_needing(leasts, (number,)) is None])


def are_numbers(machine, thing):
    """Whether thing is an ascending tuple of different numbers of instructions and conversions."""
    return (
        isinstance(thing, tuple)
        and all([is_number(machine, number) for number in thing])
        and all([one < other for one, other in zip(thing, thing[1:])])
    )


def together(machine, numbers):
    """Whether all of these numbers can be left out at once without any tree having another goal price."""
    need_machine(machine)
    if not are_numbers(machine, numbers):
        raise NoNumbers("no ascending numbers of instructions and conversions")
    return tree_needing(leasts_of(machine), numbers) is None


def needing(machine, number):
    """Some tree that needs an instruction or conversion, or None."""
    need_machine(machine)
    need_number(machine, number)
    return tree_needing(leasts_of(machine), (number,))


def without(machine, number):
    """The machine without one instruction or conversion."""
    arities, forms, instructions, conversions = machine
    first = len(instructions)
    return (
        arities,
        forms,
        tuple([row for at, row in enumerate(instructions) if at != number]),
        tuple([row for at, row in enumerate(conversions) if first + at != number]),
    )


def shows_needing(machine, number, thing):
    """Whether thing, any value, is a tree that needs an instruction or conversion."""
    need_machine(machine)
    need_number(machine, number)
    if not is_tree(machine[0], thing):
        return False
    price = prices(machine, thing)[0]
    return price is not None and prices(without(machine, number), thing)[0] != price


def choices_to_keep(amount):
    """All ascending tuples of numbers below amount, the smallest ones first, then as tuples compare."""
    tuples = [()]
    for number in range(amount):
        tuples = tuples + [(*kept, number) for kept in tuples]
    return sorted(tuples, key=lambda kept: (len(kept), kept))


def fewest(machine):
    """The first of the smallest ascending tuples of numbers such that all others can be left out at once."""
    need_machine(machine)
    amount = amount_of_rows(machine)
    if amount > MOST_CHOSEN:
        raise TooMany(amount, MOST_CHOSEN)
    leasts = leasts_of(machine)
    spare = needless_among(machine, leasts)
    for kept in choices_to_keep(amount)[:-1]:
        others = tuple([number for number in range(amount) if number not in kept])
        # What some tree needs by itself cannot be left out together with others.
        if all([number in spare for number in others]) and tree_needing(leasts, others) is None:
            return kept
    return tuple(range(amount))


def never_used(machine):
    """The ascending numbers of those that stand in no cover of the goal with the least price, of any tree."""
    need_machine(machine)
    used = used_numbers(leasts_of(machine))
    return tuple([number for number in range(amount_of_rows(machine)) if number not in used])


def taken_at(leasts):
    """For each pair (place of a state, form) what covers in it with the least price may take at the last node.

    Each is (number of the instruction, the form in which it leaves its result, pairs of the arguments' parts).
    """
    taken = {}
    for operator, row in enumerate(leasts.picks):
        for arguments, options in row.items():
            place = leasts.closure.table[operator][arguments][0]
            for number, start, ends, wanted in options:
                parts = list(zip(arguments, wanted))
                for form in range(len(leasts.ways)):
                    if ends >> form & 1:
                        taken.setdefault((place, form), []).append((number, start, parts))
    return taken


def used_numbers(leasts):
    """A dict of the numbers that stand in a cover of the goal with the least price, of some tree."""
    taken = taken_at(leasts)
    waiting = [(place, 0) for place, state in enumerate(leasts.closure.found) if state[0] is not None]
    reached = {pair: True for pair in waiting}
    used = {}
    while waiting:
        place, form = waiting.pop()
        for number, start, parts in taken[place, form]:
            used[number] = True
            used.update({passed: True for way in leasts.ways[start][form] for passed in way})
            for pair in parts:
                if pair not in reached:
                    reached[pair] = True
                    waiting.append(pair)
    return used
