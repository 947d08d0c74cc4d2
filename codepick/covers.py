"""Covers of a tree with at most 40 nodes: the first one, all their prices, and each by its number."""

from codepick.choices import choices_of
from codepick.counts import Counts, Walk
from codepick.errors import NoCover, NoForm, NoNumber, TooMany
from codepick.kinds import is_integer
from codepick.machines import is_form, need_machine
from codepick.prices import added, rows_of_nodes
from codepick.trees import need_tree, nodes

MOST_COVERED = 40


def need_few_nodes(arities, tree):
    """Refuses a tree with more nodes than may be covered."""
    amount = nodes(arities, tree)
    if amount > MOST_COVERED:
        raise TooMany(amount, MOST_COVERED)


def need_small_tree(machine, tree, form):
    """Refuses what is no machine, no tree, no form, or too great a tree."""
    need_machine(machine)
    need_tree(machine[0], tree)
    if not is_form(machine[1], form):
        raise NoForm("no form of the machine")
    need_few_nodes(machine[0], tree)


def parts_of(node, arguments):
    """The arguments' parts of a node with the forms wanted, the first one last, as it is to be taken next."""
    return list(zip(node[1:], arguments))[::-1]


def first_choice(choices, node, rows, least):
    """The first of the choices for a node, as (pair, arguments), with which its price is the least one."""
    for pair, (arguments, price) in choices.items():
        if added([price] + [rows[part][wanted] for part, wanted in zip(node[1:], arguments)]) == least:
            return pair, arguments
    return None


def first_cover(machine, tree, form=0):
    """The first of the covers with the least price, None if there is none."""
    need_small_tree(machine, tree, form)
    rows = rows_of_nodes(machine, tree)
    if rows[-1][form] is None:
        return None
    choices = choices_of(machine)
    cover = []
    waiting = [(len(tree) - 1, form)]
    while waiting:
        at, wanted = waiting.pop()
        node = tree[at]
        # Parts do not depend on one another, so that each node takes the first choice it can.
        pair, arguments = first_choice(choices[node[0]][wanted], node, rows, rows[at][wanted])
        cover.append(pair)
        waiting.extend(parts_of(node, arguments))
    return tuple(cover)


def is_pair(thing):
    """Whether thing is an integer and a tuple of integers."""
    if not isinstance(thing, tuple) or len(thing) != 2:
        return False
    number, way = thing
    return is_integer(number) and isinstance(way, tuple) and all([is_integer(step) for step in way])


def price_or_none(machine, tree, thing, form):
    """The price of a cover, None for any value that is none."""
    if not isinstance(thing, tuple):
        return None
    choices = choices_of(machine)
    total = 0
    waiting = [(len(tree) - 1, form)]
    for pair in thing:
        if not waiting or not is_pair(pair):
            return None
        at, wanted = waiting.pop()
        node = tree[at]
        if pair not in choices[node[0]][wanted]:
            return None
        arguments, price = choices[node[0]][wanted][pair]
        total += price
        waiting.extend(parts_of(node, arguments))
    return None if waiting else total


def is_cover(machine, tree, thing, form=0):
    """Whether thing, any value, is a cover of the tree in this form."""
    need_small_tree(machine, tree, form)
    return price_or_none(machine, tree, thing, form) is not None


def price_of(machine, tree, cover, form=0):
    """The price of a cover."""
    need_small_tree(machine, tree, form)
    price = price_or_none(machine, tree, cover, form)
    if price is None:
        raise NoCover("no cover of the tree in this form")
    return price


def pairs_of_counts(counts):
    """The (price, how many) of all prices that there are."""
    return [(price, many) for price, many in enumerate(counts) if many]


def spectrum(machine, tree, form=0):
    """The ascending (price, how many covers have it)."""
    need_small_tree(machine, tree, form)
    return tuple(pairs_of_counts(Counts(machine, tree).rows[-1][form]))


def cover_at(machine, tree, number, form=0):
    """The cover with this number, counted by price, then as tuples compare."""
    need_small_tree(machine, tree, form)
    if not is_integer(number) or number < 0:
        raise NoNumber("no number of a cover")
    counts = Counts(machine, tree)
    behind = number
    for price, many in pairs_of_counts(counts.rows[-1][form]):
        if behind < many:
            return cover_with_price(Walk(counts, form, price), behind)
        behind -= many
    raise NoNumber("not so many covers")


def cover_with_price(walk, number):
    """The cover with this number among those that the walk may become."""
    cover = []
    while walk.waiting:
        for pair, many in walk.options():
            if number < many:
                cover.append(pair)
                break
            number -= many
        walk.take(cover[-1])
    return tuple(cover)


def number_of(machine, tree, cover, form=0):
    """The number of a cover, counted by price, then as tuples compare."""
    price = price_of(machine, tree, cover, form)
    counts = Counts(machine, tree)
    number = sum(counts.rows[-1][form][:price])
    walk = Walk(counts, form, price)
    for pair in cover:
        number += sum([many for choice, many in walk.options() if choice < pair])
        walk.take(pair)
    return number
