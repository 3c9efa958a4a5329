"""All valid splits of a small store."""

from splitstock.checks import checked_table, tidy
from splitstock.errors import InvalidNumber


def count_states(catalogue, stock):
    """How many valid splits there are."""
    table = checked_table(catalogue, stock)
    names = table.split_kinds
    # How many choices for the kinds so far leave these pieces of the kinds behind them.
    found = {tuple([stock.get(name, 0) for name in names]): 1}
    for at, name in enumerate(names):
        counts = [table.parts[name].count(kind) for kind in names[at + 1:]]
        found = after_kind(found, counts)
    return sum(found.values())


def after_kind(found, counts):
    """The pieces of the kinds behind the first one, after each number of its splits."""
    after = {}
    for pieces, ways in found.items():
        for splits in range(pieces[0] + 1):
            rest = tuple([many + splits * count for many, count in zip(pieces[1:], counts)])
            after[rest] = after.get(rest, 0) + ways
    return after


def states(catalogue, stock, number):
    """All valid splits with this number of splits, by ascending numbers of the largest kinds."""
    table = checked_table(catalogue, stock)
    if number < 0:
        raise InvalidNumber(number)
    # Rows are extended in their order, so they stay ordered.
    rows = [{}]
    for name in table.split_kinds:
        counts = {kind: parts.count(name) for kind, parts in table.parts.items() if name in parts}
        rows = extended(rows, name, stock.get(name, 0), counts, number)
    return [tidy(row) for row in rows if sum(row.values()) == number]


def extended(rows, name, stocked, counts, number):
    """The rows with each number of splits of one more kind, up to the number in all.

    The counts tell how many pieces of this kind a split of each larger kind makes.
    """
    longer = []
    for row in rows:
        pieces = stocked + sum([row[kind] * count for kind, count in counts.items()])
        most = min(pieces, number - sum(row.values()))
        for splits in range(most + 1):
            longer.append({**row, name: splits})
    return longer
