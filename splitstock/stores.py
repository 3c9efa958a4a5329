"""A store that runs split steps and undo steps."""

from splitstock.checks import all_numbers, checked_pieces, checked_table, count_pieces, count_whole, tidy
from splitstock.errors import InvalidNumber, InvalidStep, InvalidStock, TooManySteps
from splitstock.steps import after_split_steps, after_undo_steps, count_splits, count_total, pieces_after_all

SPLIT = "split"
UNDO = "undo"


class Store:
    """A stock of pieces of which some are split."""

    def __init__(self, catalogue, stock, splits=None):
        given = {} if splits is None else splits
        table = checked_table(catalogue, stock)
        checked_pieces(table, stock, given)
        self._table = table
        # Each kind has its number, also 0, so that equal stores have equal dicts.
        self._stock = all_numbers(table, stock)
        self._splits = all_numbers(table, given)

    def __eq__(self, other):
        if not isinstance(other, Store):
            return False
        return (
            self._table.weights == other._table.weights
            and self._table.parts == other._table.parts
            and self._stock == other._stock
            and self._splits == other._splits
        )

    def splits(self):
        """How many pieces of each kind are split."""
        return tidy(self._splits)

    def stock(self):
        """How many pieces of each kind exist before any split."""
        return tidy(self._stock)

    def whole(self):
        """How many pieces of each kind are not split."""
        pieces = count_pieces(self._table, self._stock, self._splits)
        return tidy(count_whole(pieces, self._splits))

    def number(self):
        """How many pieces are split."""
        return count_splits(self._splits)

    def next_split(self):
        """The kind that a split step would take, or None."""
        made = {}
        for name in self._table.split_kinds:
            number = self._splits[name]
            if self._stock[name] + made.get(name, 0) > number:
                return name
            if number > 0:
                for part in self._table.parts[name]:
                    made[part] = made.get(part, 0) + number
        return None

    def next_undo(self):
        """The kind that an undo step would take, or None."""
        for name in reversed(self._table.split_kinds):
            if self._splits[name] > 0:
                return name
        return None

    def split(self, times=1):
        """Run that many split steps."""
        final_pieces = pieces_after_all(self._table, self._stock)
        check_times(times, count_total(self._table, final_pieces) - self.number())
        self._splits = after_split_steps(self._table, final_pieces, self._splits, times)

    def undo(self, times=1):
        """Run that many undo steps."""
        check_times(times, self.number())
        self._splits = after_undo_steps(self._table, self._splits, times)

    def run(self, history):
        """Run all steps of a history, or none of them if it raises."""
        check_history(history)
        final_pieces = pieces_after_all(self._table, self._stock)
        check_possible(history, self.number(), count_total(self._table, final_pieces))
        for step, times in history:
            if step == SPLIT:
                self._splits = after_split_steps(self._table, final_pieces, self._splits, times)
            else:
                self._splits = after_undo_steps(self._table, self._splits, times)

    def receive(self, name, number):
        """Add whole pieces to the stock."""
        if name not in self._stock:
            raise InvalidStock(name)
        if number < 0:
            raise InvalidNumber(number)
        self._stock[name] = self._stock[name] + number


def check_times(times, possible):
    """Raise an error unless so many steps can be run."""
    if times < 0:
        raise InvalidNumber(times)
    if times > possible:
        raise TooManySteps(possible)


def check_history(history):
    """Raise InvalidStep for the first entry that is not a step."""
    for index, (step, times) in enumerate(history):
        if step not in (SPLIT, UNDO) or times < 0:
            raise InvalidStep(index)


def check_possible(history, number, total):
    """Raise TooManySteps for the first entry that goes below 0 or above the total.

    Which steps are possible depends on the number of splits only.
    """
    for index, (step, times) in enumerate(history):
        number = number + times if step == SPLIT else number - times
        if number < 0 or number > total:
            raise TooManySteps(index)
