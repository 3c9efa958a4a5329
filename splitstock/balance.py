"""Balanced splits, and how far other splits are from them."""

from splitstock.checks import all_numbers, checked_pieces, checked_table, tidy
from splitstock.errors import InvalidNumber, TooManySteps
from splitstock.steps import after_split_steps, count_splits, count_total, pieces_after_all


def balanced(catalogue, stock, number):
    """The splits after this number of split steps from no splits."""
    table = checked_table(catalogue, stock)
    final_pieces = pieces_for(table, stock, number)
    return tidy(after_split_steps(table, final_pieces, all_numbers(table, {}), number))


def displacement(catalogue, stock, splits):
    """How many splits there are more than balanced ones, over all kinds."""
    table = checked_table(catalogue, stock)
    checked_pieces(table, stock, splits)
    final_pieces = pieces_after_all(table, all_numbers(table, stock))
    best = after_split_steps(table, final_pieces, all_numbers(table, {}), count_splits(splits))
    return sum([max(0, number - best[name]) for name, number in splits.items()])


def heaviest(catalogue, stock, number):
    """The weight of the heaviest whole piece with balanced splits, or None."""
    table = checked_table(catalogue, stock)
    final_pieces = pieces_for(table, stock, number)
    left = number
    # All pieces of the kinds before the first whole piece are split.
    for name in table.order:
        many = final_pieces[name]
        if many > left or (many > 0 and not table.parts[name]):
            return table.weights[name]
        left -= many
    return None


def splits_for(catalogue, stock, limit):
    """The smallest number of splits that leave no whole piece above the limit, or None."""
    table = checked_table(catalogue, stock)
    if limit < 0:
        raise InvalidNumber(limit)
    needed = 0
    pieces = all_numbers(table, stock)
    # Every piece above the limit has to be split, and no other split helps.
    for name in table.order:
        if table.weights[name] <= limit:
            break
        if pieces[name] > 0:
            if not table.parts[name]:
                return None
            needed += pieces[name]
            for part in table.parts[name]:
                pieces[part] += pieces[name]
    return needed


def pieces_for(table, stock, number):
    """The pieces after all possible splits, after the check of the number of splits."""
    if number < 0:
        raise InvalidNumber(number)
    final_pieces = pieces_after_all(table, all_numbers(table, stock))
    total = count_total(table, final_pieces)
    if number > total:
        raise TooManySteps(total)
    return final_pieces
