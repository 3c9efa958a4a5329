import copy
import itertools
import unittest

from splitstock.catalogues import kinds, total_splits
from splitstock.counting import count_states, states
from splitstock.errors import InvalidNumber, InvalidStock
from tests.cases import COIN, MIXED, chain, expect, expect_catalogue_check
from tests.model import all_splits, small_cases

BIG = 10 ** 30 - 1


def model_states(catalogue, stock, number):
    """All valid splits with this number, in the order of the document."""
    order = kinds(catalogue)
    rows = [splits for splits in all_splits(catalogue, stock) if sum(splits.values()) == number]
    rows = sorted(rows, key=lambda splits: [splits.get(name, 0) for name in order])
    return [{name: splits[name] for name in order if name in splits} for splits in rows]


def same_rows(case, found, wanted):
    """Check that two lists of dicts are equal, the order of the dicts' names too."""
    case.assertIs(type(found), list)
    case.assertEqual([list(row.items()) for row in found], [list(row.items()) for row in wanted])


class CountStatesTest(unittest.TestCase):
    def test_against_all_valid_splits(self):
        for catalogue, stock in small_cases(41, 200, 12):
            self.assertEqual(count_states(catalogue, stock), len(all_splits(catalogue, stock)))

    def test_examples(self):
        self.assertEqual(count_states(COIN, {"m": 1, "s": 1}), 6)
        self.assertEqual(count_states(stock={"s": 12}, catalogue=COIN), 13)
        self.assertEqual(count_states(COIN, {"m": 4}), 1 + 3 + 5 + 7 + 9)

    def test_no_splits(self):
        self.assertEqual(count_states(COIN, {}), 1)
        self.assertEqual(count_states(COIN, {"m": 0, "c": BIG}), 1)
        self.assertEqual(count_states([("a", 1, []), ("b", 1, [])], {"a": BIG, "b": 1}), 1)

    def test_equal_weights(self):
        self.assertEqual(count_states(MIXED, {"m": 1, "n": 1}), 10)

    def test_many_kinds(self):
        catalogue = [("c", 1, [])] + [(chr(100 + at), 2 + at, ["c"]) for at in range(12)]
        ones = {chr(100 + at): 1 for at in range(12)}
        self.assertEqual(count_states(catalogue, {**ones, "c": BIG}), 2 ** 12)
        line, names = chain(13, 1)
        self.assertEqual(count_states(line, {names[12]: 1}), 13)
        self.assertEqual(count_states(line, {names[1]: 12}), 13)

    def test_somewhat_beyond_the_bounds(self):
        catalogue = [("c", 1, [])] + [(chr(100 + at), 2 + at, ["c"]) for at in range(18)]
        self.assertEqual(count_states(catalogue, {chr(100 + at): 1 for at in range(18)}), 2 ** 18)

    def test_order_of_errors(self):
        expect_catalogue_check(self, lambda catalogue: count_states(catalogue, {"x": -1}))
        expect(self, InvalidStock, "c", count_states, COIN, {"m": -1, "c": -1})
        expect(self, InvalidStock, "x", count_states, COIN, {"x": 0, "y": -1})


class StatesTest(unittest.TestCase):
    def test_against_all_valid_splits(self):
        for catalogue, stock in small_cases(42, 200, 12):
            count = 0
            for number in range(total_splits(catalogue, stock) + 2):
                found = states(catalogue, stock, number)
                same_rows(self, found, model_states(catalogue, stock, number))
                count += len(found)
            self.assertEqual(count, count_states(catalogue, stock))

    def test_order(self):
        wanted = [{"s": 2}, {"m": 1, "s": 1}, {"m": 2}]
        same_rows(self, states(COIN, {"s": 2, "m": 2}, 2), wanted)
        wanted = [{"s": 2}, {"n": 1, "s": 1}, {"m": 1, "s": 1}, {"m": 1, "n": 1}]
        same_rows(self, states(MIXED, {"n": 1, "s": 2, "m": 1}, 2), wanted)

    def test_examples(self):
        same_rows(self, states(COIN, {"m": 1, "s": 1}, 2), [{"m": 1, "s": 1}])
        same_rows(self, states(number=1, stock={"s": 1, "m": 1}, catalogue=COIN), [{"s": 1}, {"m": 1}])

    def test_zero_and_total(self):
        same_rows(self, states(COIN, {"m": 2, "s": 1}, 0), [{}])
        same_rows(self, states(COIN, {"m": 2, "s": 1}, 7), [{"m": 2, "s": 5}])
        same_rows(self, states(COIN, {}, 0), [{}])
        same_rows(self, states([("a", 1, [])], {"a": BIG}, 0), [{}])

    def test_none(self):
        for number in [8, 9, 10 ** 60 - 1]:
            same_rows(self, states(COIN, {"m": 2, "s": 1}, number), [])
        same_rows(self, states(COIN, {}, 1), [])
        same_rows(self, states([("a", 1, [])], {"a": BIG}, 1), [])

    def test_many_kinds(self):
        names = [chr(100 + at) for at in range(12)]
        catalogue = [("c", 1, [])] + [(name, 2 + at, ["c"]) for at, name in enumerate(names)]
        found = states(catalogue, {name: 1 for name in names}, 6)
        rows = itertools.combinations(reversed(names), 6)
        self.assertEqual(sorted(map(list, found)), sorted(map(list, rows)))
        self.assertEqual(found[0], {name: 1 for name in names[:6]})

    def test_order_of_errors(self):
        expect_catalogue_check(self, lambda catalogue: states(catalogue, {"x": -1}, -1))
        expect(self, InvalidStock, "c", states, COIN, {"m": -1, "c": -1}, -1)
        expect(self, InvalidStock, "x", states, COIN, {"x": 0}, -1)
        expect(self, InvalidNumber, -1, states, COIN, {"m": 1}, -1)
        expect(self, InvalidNumber, -(10 ** 59), states, COIN, {}, -(10 ** 59))

    def test_returned_values_are_new(self):
        for number in range(5):
            found = states(COIN, {"m": 2}, number)
            self.assertEqual(len({id(row) for row in found}), len(found))
            wanted = copy.deepcopy(found)
            for row in found:
                row["x"] = 1
            found.clear()
            same_rows(self, states(COIN, {"m": 2}, number), wanted)


class ArgumentsTest(unittest.TestCase):
    def test_arguments_do_not_change(self):
        catalogue, stock = copy.deepcopy(MIXED), {"s": 1, "m": 1, "d": 0}
        count_states(catalogue, stock)
        states(catalogue, stock, 2)
        self.assertEqual(catalogue, MIXED)
        self.assertEqual(list(stock.items()), [("s", 1), ("m", 1), ("d", 0)])


if __name__ == "__main__":
    unittest.main()
