"""A checked catalogue in the form that the other files work with."""

from splitstock.errors import InvalidCatalogue

LETTERS = "abcdefghijklmnopqrstuvwxyz"
LONGEST_NAME = 8


class Table:
    """The kinds of a valid catalogue: order, weights and parts."""

    def __init__(self, catalogue):
        check_catalogue(catalogue)
        self.order = order_of(catalogue)
        self.weights = {name: weight for name, weight, parts in catalogue}
        # Sorted, so that tables with the same parts in another order are alike.
        self.parts = {name: sorted(parts) for name, weight, parts in catalogue}


def order_of(catalogue):
    """The names of a valid catalogue from the largest kind to the smallest."""
    rows = sorted([(-weight, name) for name, weight, parts in catalogue])
    return [name for negative_weight, name in rows]


def check_catalogue(catalogue):
    """Raise InvalidCatalogue for the first invalid entry."""
    if len(catalogue) == 0:
        raise InvalidCatalogue(0)
    first = first_places(catalogue)
    for at in range(len(catalogue)):
        if not is_valid_entry(catalogue, first, at):
            raise InvalidCatalogue(at)


def first_places(catalogue):
    """The index of the first entry with each name."""
    first = {}
    for at, entry in enumerate(catalogue):
        if entry[0] not in first:
            first[entry[0]] = at
    return first


def is_valid_entry(catalogue, first, at):
    """Whether the entry at this index is valid."""
    name, weight, parts = catalogue[at]
    if not is_name(name) or first[name] != at or weight < 1:
        return False
    return all([part in first and catalogue[first[part]][1] < weight for part in parts])


def is_name(name):
    """Whether this is a string of one to eight lower-case letters."""
    if not isinstance(name, str) or not 1 <= len(name) <= LONGEST_NAME:
        return False
    return all([letter in LETTERS for letter in name])
