"""Many split steps or undo steps at once.

Stocks and splits are valid here. Every function returns new values.
"""

from splitstock.checks import count_whole, most_splits


def split_heavier(table, stock, limit):
    """The splits if every piece with parts that is heavier than the limit is split."""
    splits = {}
    for name in table.order:
        if table.weights[name] > limit:
            splits[name] = most_splits(table, stock, splits, name)
    return splits


def count_total(table, stock):
    """The number of splits when no whole piece has parts any more."""
    # Every weight is at least 1, so the limit 0 spares no kind.
    return count_splits(split_heavier(table, stock, 0))


def count_splits(splits):
    """How many pieces are split."""
    return sum(splits.values())


def after_split_steps(table, stock, splits, times):
    """The splits after so many split steps, all of which are possible."""
    after = {}
    left = times
    for name in table.order:
        present = splits.get(name, 0)
        # A split makes smaller pieces only, so one pass takes each kind at its turn.
        taken = min(left, most_splits(table, stock, after, name) - present)
        after[name] = present + taken
        left = left - taken
    return after


def after_undo_steps(table, splits, times):
    """The splits after so many undo steps, all of which are possible."""
    after = {}
    left = times
    for name in reversed(table.order):
        present = splits.get(name, 0)
        taken = min(left, present)
        after[name] = present - taken
        left = left - taken
    return after


def heaviest_whole(table, stock, splits):
    """The weight of the heaviest whole piece, or None if there is no piece."""
    for name in table.order:
        if count_whole(table, stock, splits, name) > 0:
            return table.weights[name]
    return None
