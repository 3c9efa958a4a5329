"""Balanced splits, and how far other splits are from them."""

from splitstock.checks import check_splits, checked_table, tidy
from splitstock.errors import InvalidNumber, TooManySteps
from splitstock.steps import after_split_steps, count_splits, count_total, heaviest_whole, split_heavier


def balanced(catalogue, stock, number):
    """The splits after this number of split steps from no splits."""
    table = checked_table(catalogue, stock)
    return tidy(table, balanced_splits(table, stock, number))


def displacement(catalogue, stock, splits):
    """How many splits there are more than balanced ones, over all kinds."""
    table = checked_table(catalogue, stock)
    check_splits(table, stock, splits)
    best = balanced_splits(table, stock, count_splits(splits))
    return sum([max(0, splits.get(name, 0) - best[name]) for name in table.order])


def heaviest(catalogue, stock, number):
    """The weight of the heaviest whole piece with balanced splits, or None."""
    table = checked_table(catalogue, stock)
    return heaviest_whole(table, stock, balanced_splits(table, stock, number))


def splits_for(catalogue, stock, limit):
    """The smallest number of splits that leave no whole piece above the limit, or None."""
    table = checked_table(catalogue, stock)
    if limit < 0:
        raise InvalidNumber(limit)
    # Every piece above the limit has to be split, and no other split helps.
    needed = split_heavier(table, stock, limit)
    weight = heaviest_whole(table, stock, needed)
    if weight is not None and weight > limit:
        return None
    return count_splits(needed)


def balanced_splits(table, stock, number):
    """The balanced splits with a number for every kind, after the check of the number."""
    if number < 0:
        raise InvalidNumber(number)
    total = count_total(table, stock)
    if number > total:
        raise TooManySteps(total)
    return after_split_steps(table, stock, {}, number)
