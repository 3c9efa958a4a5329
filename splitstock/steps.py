"""Many split steps or undo steps at once.

Stocks and splits are valid here and have a number for every kind. Every
function returns new values. As long as split steps are left, all larger kinds
are split as far as they can be; so a pass over the kinds needs only the pieces
after all possible splits.
"""


def pieces_after_all(table, stock):
    """The pieces of each kind when no whole piece has parts any more."""
    pieces = dict(stock)
    for name in table.split_kinds:
        number = pieces[name]
        if number > 0:
            for part in table.parts[name]:
                pieces[part] += number
    return pieces


def count_total(table, final_pieces):
    """The number of splits when no whole piece has parts any more."""
    total = 0
    for name in table.split_kinds:
        total += final_pieces[name]
    return total


def count_splits(splits):
    """How many pieces are split."""
    return sum(splits.values())


def after_split_steps(table, final_pieces, splits, times):
    """The splits of each kind after so many split steps, all of which are possible."""
    after = dict(splits)
    left = times
    for name in table.split_kinds:
        if left == 0:
            break
        taken = min(left, final_pieces[name] - after[name])
        after[name] += taken
        left -= taken
    return after


def after_undo_steps(table, splits, times):
    """The splits of each kind after so many undo steps, all of which are possible."""
    after = dict(splits)
    left = times
    for name in reversed(table.split_kinds):
        if left == 0:
            break
        taken = min(left, after[name])
        after[name] -= taken
        left -= taken
    return after
