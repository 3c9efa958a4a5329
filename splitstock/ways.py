"""Shortest ways from some splits to others, by single steps of any kind.

If each kind has as many splits as the first or the second splits say, whichever
are more, these splits are valid, too. So a way that first splits what is
missing, from the largest kind on, and then undoes what is too much, from the
smallest kind on, is always possible. A step changes one number by one, so this
way is a shortest one, and on a shortest way no step leads back.
"""

from math import comb

from splitstock.checks import checked_pieces, checked_table, count_whole
from splitstock.stores import SPLIT, UNDO


def distance(catalogue, stock, first, second):
    """The smallest number of single steps from the first splits to the second ones."""
    table = checked_table(catalogue, stock)
    checked_pieces(table, stock, first)
    checked_pieces(table, stock, second)
    return sum([abs(change) for change in changes_of(table, first, second).values()])


def way(catalogue, stock, first, second):
    """A shortest way as a list of (kind of step, name, times)."""
    table = checked_table(catalogue, stock)
    checked_pieces(table, stock, first)
    checked_pieces(table, stock, second)
    changes = changes_of(table, first, second)
    splits = [(SPLIT, name, change) for name, change in changes.items() if change > 0]
    undos = [(UNDO, name, -change) for name, change in changes.items() if change < 0]
    return splits + undos[::-1]


def count_ways(catalogue, stock, first, second):
    """How many shortest ways there are, as sequences of single steps."""
    table = checked_table(catalogue, stock)
    pieces = checked_pieces(table, stock, first)
    checked_pieces(table, stock, second)
    changes = changes_of(table, first, second)
    limits = limits_of(table, count_whole(pieces, first), changes)
    bound = {kind: True for whole, effects in limits for kind in effects}
    ways = count_orders(limits, [(kind, abs(changes[kind])) for kind in changes if kind in bound])
    done = sum([abs(changes[kind]) for kind in bound])
    # The other steps are possible at any time, so they stand anywhere between.
    for kind, change in changes.items():
        if kind not in bound:
            done += abs(change)
            ways *= comb(done, abs(change))
    return ways


def changes_of(table, first, second):
    """How many more splits the second ones have of each kind that differs, largest first."""
    changes = {name: second.get(name, 0) - first.get(name, 0) for name in table.split_kinds}
    return {name: change for name, change in changes.items() if change != 0}


def limits_of(table, whole, changes):
    """The limits that some orders of the steps would break.

    A limit is one kind's number of whole pieces at first, and by how much a
    step of each kind changes it. It must not fall below 0.
    """
    limits = []
    for name in table.split_kinds:
        effects = effects_on(table, name, changes)
        losses = [effect * abs(changes[kind]) for kind, effect in effects.items() if effect < 0]
        if whole[name] + sum(losses) < 0:
            limits.append((whole[name], effects))
    return limits


def effects_on(table, name, changes):
    """By how much a step of each kind changes the whole pieces of the named one."""
    effects = {}
    for kind, change in changes.items():
        made = -1 if kind == name else table.parts[kind].count(name)
        if made != 0:
            effects[kind] = made if change > 0 else -made
    return effects


def count_orders(limits, steps):
    """How many orders of the steps keep all limits; steps are (kind, times)."""
    # A place tells how many steps of each kind are done, in one number.
    allowed = allowed_places(limits, steps)
    moves = moves_of(steps)
    ways = [1]
    for place in range(1, len(allowed)):
        found = 0
        if allowed[place]:
            found = sum([ways[place - low] for low, high in moves if place % high >= low])
        ways.append(found)
    return ways[-1]


def moves_of(steps):
    """For each kind the worth of one of its steps in a place, and that of all and one more."""
    moves = []
    low = 1
    for kind, times in steps:
        high = low * (times + 1)
        moves.append((low, high))
        low = high
    return moves


def allowed_places(limits, steps):
    """For each place whether it keeps all limits; the first kind's steps count least."""
    size = 1
    for kind, times in steps:
        size *= times + 1
    allowed = [True] * size
    for whole, effects in limits:
        numbers = [whole]
        for kind, times in steps:
            effect = effects.get(kind, 0)
            numbers = [number + effect * done for done in range(times + 1) for number in numbers]
        allowed = [fits and number >= 0 for fits, number in zip(allowed, numbers)]
    return allowed
