"""How much work the calls are over large catalogues.

The work is counted in Python's own operations, not in seconds, so the tests do
not depend on the machine.
"""

import sys
import unittest

from splitstock.balance import balanced, displacement, heaviest, splits_for
from splitstock.catalogues import kinds, pieces, total_splits, whole_pieces
from splitstock.stores import Store
from tests.model import Model


def name_of(at):
    """A name of its own for each number below 26 * 26, in string order."""
    return chr(97 + at // 26) + chr(97 + at % 26)


def large(size):
    """A catalogue with six parts for each kind but the first, and a large stock."""
    catalogue = [(name_of(0), 1, [])]
    for at in range(1, size):
        catalogue.append((name_of(at), 1 + at * 1000, [name_of(part % at) for part in range(6)]))
    return catalogue, {name_of(at): 10 ** 29 + at for at in range(size)}


def work(call, *args):
    """How many operations of Python's a call runs."""
    count = 0

    def trace(frame, event, arg):
        nonlocal count
        frame.f_trace_opcodes = True
        count += event == "opcode"
        return trace

    before = sys.gettrace()
    # Python 3.12 traces operations only if some frame asks for it beforehand.
    sys._getframe().f_trace_opcodes = True
    sys.settrace(trace)
    try:
        call(*args)
    finally:
        sys.settrace(before)
    return count


class WorkTest(unittest.TestCase):
    def check(self, call, *more):
        """Four times as many kinds are at most about four times the work."""
        few, many = large(20), large(80)
        self.assertLess(0, work(call, *few, *more))
        self.assertLess(work(call, *many, *more), 5 * work(call, *few, *more))

    def test_heaviest(self):
        for number in [0, 10 ** 29, 10 ** 30]:
            self.check(heaviest, number)

    def test_splits_for(self):
        for limit in [0, 1, 5000, 10 ** 12]:
            self.check(splits_for, limit)

    def test_other_functions(self):
        for number in [0, 10 ** 29, 10 ** 30]:
            self.check(balanced, number)
        self.check(total_splits)
        for splits in [{}, {name_of(at): 10 ** 29 for at in range(1, 20)}]:
            for call in [pieces, whole_pieces, displacement, Store]:
                self.check(call, splits)

    def test_little_more_than_the_check_of_the_catalogue(self):
        catalogue, stock = large(20)
        check = work(kinds, catalogue)
        for call, number in [(heaviest, 10 ** 30), (splits_for, 5000)]:
            self.assertLess(work(call, catalogue, stock, number), 3 * check)


class LargeAnswersTest(unittest.TestCase):
    def test_example(self):
        catalogue, stock = large(20)
        for number in [0, 1, 10 ** 29 + 18, 10 ** 29 + 19, 10 ** 29 + 20, 10 ** 30, total_splits(catalogue, stock)]:
            whole = whole_pieces(catalogue, stock, balanced(catalogue, stock, number))
            weights = [weight for name, weight, parts in catalogue if name in whole]
            self.assertEqual(heaviest(catalogue, stock, number), max(weights))
        for limit in [1, 2, 1000, 1001, 5000, 18999, 19000]:
            number = splits_for(catalogue, stock, limit)
            self.assertLessEqual(heaviest(catalogue, stock, number), limit)
            self.assertGreater(heaviest(catalogue, stock, number - 1), limit)
        self.assertEqual(splits_for(catalogue, stock, 19001), 0)
        self.assertIsNone(splits_for(catalogue, stock, 0))

    def test_against_single_steps(self):
        catalogue, stock = large(20)
        few = {name: 1 for name in list(stock)[12:]}
        model, weights, number = Model(catalogue, few), [], 0
        while model.can_split() and number < 200:
            self.assertEqual(heaviest(catalogue, few, number), model.heaviest())
            weights.append(model.heaviest())
            model.split()
            number += 1
        self.assertEqual(number, 200)
        for limit in sorted(set(weights))[1:]:
            first = min(at for at, weight in enumerate(weights) if weight <= limit)
            self.assertEqual(splits_for(catalogue, few, limit), first)


if __name__ == "__main__":
    unittest.main()
