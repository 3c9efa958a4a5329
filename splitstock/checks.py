"""The checks of stocks and splits, and the forms of dicts of numbers.

Behind checked_table, functions here and in steps.py take a Table instead of a
catalogue.
"""

from splitstock.errors import InvalidSplits, InvalidStock
from splitstock.tables import Table


def checked_table(catalogue, stock):
    """The table of the catalogue, after the catalogue check and the stock check."""
    table = Table(catalogue)
    check_stock(table, stock)
    return table


def check_stock(table, stock):
    """Raise InvalidStock for the first wrong name in string order."""
    for name in sorted(stock):
        if name not in table.weights or stock[name] < 0:
            raise InvalidStock(name)


def check_splits(table, stock, splits):
    """Raise InvalidSplits for an unknown name, then for the largest wrong kind."""
    for name in sorted(splits):
        if name not in table.weights:
            raise InvalidSplits(name)
    for name in table.order:
        number = splits.get(name, 0)
        if number < 0 or number > most_splits(table, stock, splits, name):
            raise InvalidSplits(name)


def most_splits(table, stock, splits, name):
    """How many splits the kind can have, given the splits of larger kinds."""
    if not table.parts[name]:
        return 0
    return count_pieces(table, stock, splits, name)


def count_pieces(table, stock, splits, name):
    """The number of pieces of the kind, which depends on splits of larger kinds only."""
    made = [splits.get(kind, 0) * table.parts[kind].count(name) for kind in table.order]
    return stock.get(name, 0) + sum(made)


def count_whole(table, stock, splits, name):
    """The number of pieces of the kind that are not split."""
    return count_pieces(table, stock, splits, name) - splits.get(name, 0)


def tidy(table, numbers):
    """A new dict of the numbers above 0, from the largest kind to the smallest."""
    return {name: numbers[name] for name in table.order if numbers.get(name, 0) > 0}
