"""A checked catalogue in the form that the other files work with."""

from splitstock.errors import InvalidCatalogue

LONGEST_NAME = 8


class Table:
    """The kinds of a valid catalogue: weights, order, parts, and which have parts."""

    def __init__(self, catalogue):
        self.weights = checked_weights(catalogue)
        self.order = order_of(self.weights)
        # Sorted, so that tables with the same parts in another order are alike.
        self.parts = {name: sorted(parts) for name, weight, parts in catalogue}
        self.split_kinds = [name for name in self.order if self.parts[name]]


def order_of(weights):
    """The names from the largest kind to the smallest."""
    # Names of equal weight stay in string order.
    return sorted(sorted(weights), key=lambda name: -weights[name])


def checked_weights(catalogue):
    """The weight of each name, after the catalogue check.

    It raises InvalidCatalogue for the first invalid entry.
    """
    if len(catalogue) == 0:
        raise InvalidCatalogue(0)
    weights = first_weights(catalogue)
    seen = set()
    for at, (name, weight, parts) in enumerate(catalogue):
        if name in seen or weight < 1 or not is_name(name) or not are_lighter(parts, weight, weights):
            raise InvalidCatalogue(at)
        seen.add(name)
    return weights


def first_weights(catalogue):
    """The weight of each name, by the first entry that has it."""
    weights = {}
    for name, weight, parts in catalogue:
        if name not in weights:
            weights[name] = weight
    return weights


def is_name(name):
    """Whether this is a string of one to eight lower-case letters."""
    if not isinstance(name, str) or len(name) > LONGEST_NAME:
        return False
    # The empty string is ASCII, but not alphabetic.
    return name.isascii() and name.isalpha() and name.islower()


def are_lighter(parts, weight, weights):
    """Whether each part is a known name with less than this weight."""
    for part in parts:
        if part not in weights or weights[part] >= weight:
            return False
    return True
