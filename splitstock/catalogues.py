"""The kinds of a catalogue, the pieces of a store, and its total."""

from splitstock.checks import check_splits, checked_table, count_pieces, count_whole, tidy
from splitstock.steps import count_total
from splitstock.tables import Table


def kinds(catalogue):
    """The names from the largest kind to the smallest."""
    return Table(catalogue).order


def pieces(catalogue, stock, splits):
    """The number of pieces of each kind, whole or split."""
    table = checked_table(catalogue, stock)
    check_splits(table, stock, splits)
    found = {name: count_pieces(table, stock, splits, name) for name in table.order}
    return tidy(table, found)


def whole_pieces(catalogue, stock, splits):
    """The number of whole pieces of each kind."""
    table = checked_table(catalogue, stock)
    check_splits(table, stock, splits)
    found = {name: count_whole(table, stock, splits, name) for name in table.order}
    return tidy(table, found)


def total_splits(catalogue, stock):
    """The number of splits when no whole piece has parts any more."""
    table = checked_table(catalogue, stock)
    return count_total(table, stock)
