"""The kinds of a catalogue, the pieces of a store, and its total."""

from splitstock.checks import all_numbers, checked_pieces, checked_table, count_whole, tidy
from splitstock.steps import count_total, pieces_after_all
from splitstock.tables import Table


def kinds(catalogue):
    """The names from the largest kind to the smallest."""
    return Table(catalogue).order


def pieces(catalogue, stock, splits):
    """The number of pieces of each kind, whole or split."""
    table = checked_table(catalogue, stock)
    return tidy(checked_pieces(table, stock, splits))


def whole_pieces(catalogue, stock, splits):
    """The number of whole pieces of each kind."""
    table = checked_table(catalogue, stock)
    return tidy(count_whole(checked_pieces(table, stock, splits), splits))


def total_splits(catalogue, stock):
    """The number of splits when no whole piece has parts any more."""
    table = checked_table(catalogue, stock)
    return count_total(table, pieces_after_all(table, all_numbers(table, stock)))
