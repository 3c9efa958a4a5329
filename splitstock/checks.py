"""The checks of stocks and splits, and dicts of numbers.

Behind checked_table, functions here and in steps.py take a Table instead of a
catalogue. Dicts of pieces and of whole pieces have every kind, in the order of
the table.
"""

from splitstock.errors import InvalidSplits, InvalidStock
from splitstock.tables import Table


def checked_table(catalogue, stock):
    """The table of the catalogue, after the catalogue check and the stock check."""
    table = Table(catalogue)
    check_stock(table, stock)
    return table


def check_stock(table, stock):
    """Raise InvalidStock for the first wrong name in string order."""
    wrong = [name for name in stock if name not in table.weights or stock[name] < 0]
    if wrong:
        raise InvalidStock(min(wrong))


def checked_pieces(table, stock, splits):
    """The pieces of each kind, after the splits check.

    It raises InvalidSplits for an unknown name, then for the largest wrong kind.
    """
    unknown = [name for name in splits if name not in table.weights]
    if unknown:
        raise InvalidSplits(min(unknown))
    # Pieces depend on larger kinds only, so those of the first wrong kind are right.
    pieces = count_pieces(table, stock, splits)
    for name in table.order:
        number = splits.get(name, 0)
        most = pieces[name] if table.parts[name] else 0
        if number < 0 or number > most:
            raise InvalidSplits(name)
    return pieces


def count_pieces(table, stock, splits):
    """The pieces of each kind, whole or split."""
    pieces = all_numbers(table, stock)
    for name, number in splits.items():
        if number != 0:
            for part in table.parts[name]:
                pieces[part] += number
    return pieces


def count_whole(pieces, splits):
    """The pieces of each kind that are not split."""
    return {name: number - splits.get(name, 0) for name, number in pieces.items()}


def all_numbers(table, numbers):
    """A new dict with a number for each kind, also 0, from the largest to the smallest."""
    return {name: numbers.get(name, 0) for name in table.order}


def tidy(numbers):
    """A new dict of the numbers above 0, in the same order."""
    return {name: number for name, number in numbers.items() if number > 0}
