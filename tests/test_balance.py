import copy
import random
import unittest

from splitstock.balance import balanced, displacement, heaviest, splits_for
from splitstock.catalogues import total_splits, whole_pieces
from splitstock.errors import InvalidNumber, InvalidSplits, InvalidStock, TooManySteps
from splitstock.stores import Store
from tests.cases import COIN, MIXED, expect, expect_catalogue_check, same
from tests.model import Model, all_splits, model_balanced, model_total, random_splits, small_cases

BIG = 10 ** 30 - 1


def model_displacement(catalogue, stock, splits):
    """The displacement by single steps of the model."""
    best = model_balanced(catalogue, stock, sum(splits.values())).splits
    return sum(max(0, splits.get(name, 0) - best[name]) for name in best)


class BalancedTest(unittest.TestCase):
    def test_against_single_steps(self):
        for catalogue, stock in small_cases(11, 100, 30):
            for number in range(model_total(catalogue, stock) + 1):
                model = model_balanced(catalogue, stock, number)
                same(self, balanced(catalogue, stock, number), model.tidy(model.splits))

    def test_zero_and_total(self):
        same(self, balanced(COIN, {"m": 2, "s": 1}, 0), {})
        same(self, balanced(COIN, {"m": 2, "s": 1}, 7), {"m": 2, "s": 5})
        same(self, balanced(COIN, {}, 0), {})

    def test_order_of_kinds(self):
        same(self, balanced(MIXED, {"s": 1, "n": 1, "l": 1}, 6), {"l": 1, "m": 1, "n": 3, "s": 1})

    def test_large(self):
        same(self, balanced(COIN, {"m": BIG, "s": BIG}, 3 * BIG + 1), {"m": BIG, "s": 2 * BIG + 1})
        same(self, balanced(COIN, {"m": BIG, "s": BIG}, 4 * BIG), {"m": BIG, "s": 3 * BIG})
        expect(self, TooManySteps, 4 * BIG, balanced, COIN, {"m": BIG, "s": BIG}, 4 * BIG + 1)

    def test_by_name_and_new(self):
        stock = {"s": 1, "m": 2}
        found = balanced(number=4, stock=stock, catalogue=COIN)
        same(self, found, {"m": 2, "s": 2})
        found.clear()
        same(self, balanced(COIN, stock, 4), {"m": 2, "s": 2})
        same(self, stock, {"s": 1, "m": 2})


class HeaviestTest(unittest.TestCase):
    def test_against_single_steps(self):
        for catalogue, stock in small_cases(12, 100, 30):
            for number in range(model_total(catalogue, stock) + 1):
                model = model_balanced(catalogue, stock, number)
                self.assertEqual(heaviest(catalogue, stock, number), model.heaviest())

    def test_examples(self):
        found = [heaviest(COIN, {"m": 2, "s": 1}, number) for number in range(8)]
        self.assertEqual(found, [6, 6, 3, 3, 3, 3, 3, 1])

    def test_atoms_count(self):
        catalogue = [("h", 9, []), ("b", 2, ["a"]), ("a", 1, [])]
        self.assertEqual(heaviest(catalogue, {"h": 1, "b": 1}, 1), 9)
        self.assertEqual(heaviest(catalogue, {"b": 1}, 1), 1)

    def test_no_piece(self):
        self.assertIsNone(heaviest(COIN, {}, 0))
        self.assertIsNone(heaviest(stock={"m": 0}, number=0, catalogue=COIN))

    def test_large(self):
        self.assertEqual(heaviest(COIN, {"m": BIG}, BIG - 1), 6)
        self.assertEqual(heaviest(COIN, {"m": BIG}, BIG), 3)
        self.assertEqual(heaviest(COIN, {"m": BIG}, 3 * BIG), 1)


class NumberErrorsTest(unittest.TestCase):
    def test_catalogue_first(self):
        for call in [balanced, heaviest]:
            expect_catalogue_check(self, lambda catalogue: call(catalogue, {"x": -1}, -1))

    def test_then_stock(self):
        for call in [balanced, heaviest]:
            expect(self, InvalidStock, "c", call, COIN, {"m": -1, "c": -1}, -1)
            expect(self, InvalidStock, "x", call, COIN, {"x": 0}, 99)

    def test_then_negative_number(self):
        for call in [balanced, heaviest]:
            expect(self, InvalidNumber, -1, call, COIN, {"m": 1}, -1)
            expect(self, InvalidNumber, -(10 ** 59), call, COIN, {}, -(10 ** 59))

    def test_then_more_than_the_total(self):
        for call in [balanced, heaviest]:
            expect(self, TooManySteps, 7, call, COIN, {"m": 2, "s": 1}, 8)
            expect(self, TooManySteps, 7, call, COIN, {"m": 2, "s": 1}, 10 ** 60)
            expect(self, TooManySteps, 0, call, COIN, {}, 1)
            expect(self, TooManySteps, 0, call, COIN, {"c": 3}, 1)


class DisplacementTest(unittest.TestCase):
    def test_against_single_steps(self):
        for catalogue, stock in small_cases(13, 150, 12):
            for splits in all_splits(catalogue, stock):
                wanted = model_displacement(catalogue, stock, splits)
                self.assertEqual(displacement(catalogue, stock, splits), wanted)

    def test_examples(self):
        self.assertEqual(displacement(COIN, {"m": 2, "s": 1}, {"s": 1}), 1)
        self.assertEqual(displacement(COIN, {"m": 2, "s": 1}, {"m": 2, "s": 5}), 0)
        self.assertEqual(displacement(COIN, {"m": 2, "s": 5}, {"s": 5}), 2)
        self.assertEqual(displacement(splits={"c": 0}, stock={}, catalogue=COIN), 0)

    def test_large(self):
        stock = {"m": BIG, "s": 5 * BIG}
        self.assertEqual(displacement(COIN, stock, {"s": 5 * BIG}), BIG)
        self.assertEqual(displacement(COIN, stock, {"m": BIG, "s": 5 * BIG}), 0)

    def test_zero_exactly_for_balanced_splits(self):
        for catalogue, stock in small_cases(14, 40, 12):
            for splits in all_splits(catalogue, stock):
                alike = balanced(catalogue, stock, sum(splits.values())) == splits
                self.assertEqual(displacement(catalogue, stock, splits) == 0, alike)

    def test_order_of_errors(self):
        expect_catalogue_check(self, lambda catalogue: displacement(catalogue, {"x": -1}, {"y": 1}))
        expect(self, InvalidStock, "c", displacement, COIN, {"m": -1, "c": -1}, {"x": 1})
        expect(self, InvalidSplits, "x", displacement, COIN, {"m": 1}, {"m": 2, "x": 0})
        expect(self, InvalidSplits, "m", displacement, COIN, {"m": 1}, {"m": 2, "s": -1})
        expect(self, InvalidSplits, "s", displacement, COIN, {"m": 1}, {"m": 1, "s": 3})
        expect(self, InvalidSplits, "c", displacement, COIN, {"m": 1, "c": 1}, {"c": 1})
        expect(self, InvalidSplits, "s", displacement, COIN, {"m": 1}, {"m": 1, "s": -1})


class ReducingTest(unittest.TestCase):
    """Pairs of a split step and an undo step, in both orders."""

    def pairs(self, catalogue, stock, splits):
        found = []
        for history in [[("split", 1), ("undo", 1)], [("undo", 1), ("split", 1)]]:
            store = Store(catalogue, stock, splits)
            try:
                store.run(history)
            except TooManySteps:
                continue
            found.append(store)
        return found

    def test_a_pair_reduces_the_displacement_by_one(self):
        seen = 0
        for catalogue, stock in small_cases(15, 200, 12):
            for splits in all_splits(catalogue, stock):
                before = displacement(catalogue, stock, splits)
                if before > 0:
                    seen += 1
                    after = [displacement(catalogue, stock, store.splits())
                             for store in self.pairs(catalogue, stock, splits)]
                    self.assertEqual(after, [before - 1, before - 1])
        self.assertLess(500, seen)

    def test_a_pair_leaves_balanced_splits_as_they_are(self):
        for catalogue, stock in small_cases(16, 150, 12):
            for number in range(total_splits(catalogue, stock) + 1):
                splits = balanced(catalogue, stock, number)
                for store in self.pairs(catalogue, stock, splits):
                    same(self, store.splits(), splits)

    def test_a_long_history_leads_to_balanced_splits(self):
        rng = random.Random(17)
        for catalogue, stock in small_cases(17, 100, 40):
            splits = random_splits(rng, catalogue, stock)
            far = displacement(catalogue, stock, splits)
            for history in [[("split", 1), ("undo", 1)] * far, [("undo", far), ("split", far)]]:
                store = Store(catalogue, stock, splits)
                store.run(history)
                same(self, store.splits(), balanced(catalogue, stock, store.number()))

    def test_large(self):
        stock, splits = {"m": BIG, "s": 5 * BIG}, {"s": 5 * BIG}
        store = Store(COIN, stock, splits)
        store.run([("split", BIG // 3), ("undo", BIG // 3)])
        self.assertEqual(displacement(COIN, stock, store.splits()), BIG - BIG // 3)
        store.run([("undo", BIG), ("split", BIG)])
        self.assertEqual(displacement(COIN, stock, store.splits()), 0)


class BestTest(unittest.TestCase):
    def test_balanced_splits_against_all_valid_splits(self):
        compared = 0
        for catalogue, stock in small_cases(18, 200, 12):
            order = Model(catalogue, stock).order
            by_number = {}
            for splits in all_splits(catalogue, stock):
                by_number.setdefault(sum(splits.values()), []).append(splits)
            self.assertEqual(sorted(by_number), list(range(total_splits(catalogue, stock) + 1)))
            for number, rows in by_number.items():
                best = min(Model(catalogue, stock, splits).heaviest() or 0 for splits in rows)
                self.assertEqual(heaviest(catalogue, stock, number) or 0, best)
                if number > 0:
                    smallest = [max(order.index(name) for name in splits) for splits in rows]
                    ours = max(order.index(name) for name in balanced(catalogue, stock, number))
                    self.assertEqual(ours, min(smallest))
                    compared += len(rows)
        self.assertLess(1000, compared)


class SplitsForTest(unittest.TestCase):
    def test_against_all_valid_splits(self):
        for catalogue, stock in small_cases(19, 150, 12):
            models = [Model(catalogue, stock, splits) for splits in all_splits(catalogue, stock)]
            for limit in range(11):
                good = [model.number() for model in models if (model.heaviest() or 0) <= limit]
                self.assertEqual(splits_for(catalogue, stock, limit), min(good, default=None))

    def test_against_step_by_step(self):
        for catalogue, stock in small_cases(20, 80, 60):
            for limit in range(11):
                numbers = range(model_total(catalogue, stock) + 1)
                good = [number for number in numbers
                        if (model_balanced(catalogue, stock, number).heaviest() or 0) <= limit]
                self.assertEqual(splits_for(catalogue, stock, limit), min(good, default=None))

    def test_examples(self):
        found = [splits_for(COIN, {"m": 2, "s": 1}, limit) for limit in range(8)]
        self.assertEqual(found, [None, 7, 7, 2, 2, 2, 0, 0])

    def test_an_atom_above_the_limit(self):
        catalogue = [("h", 9, []), ("b", 12, ["h", "a"]), ("a", 1, [])]
        self.assertIsNone(splits_for(catalogue, {"h": 1}, 8))
        self.assertEqual(splits_for(catalogue, {"h": 1}, 9), 0)
        self.assertIsNone(splits_for(catalogue, {"b": 1}, 8))
        self.assertEqual(splits_for(catalogue, {"b": 1}, 11), 1)

    def test_empty_stock(self):
        for limit in [0, 1, 10 ** 12]:
            self.assertEqual(splits_for(COIN, {}, limit), 0)
            self.assertEqual(splits_for(limit=limit, stock={"m": 0, "c": 0}, catalogue=COIN), 0)

    def test_large(self):
        self.assertEqual(splits_for(COIN, {"m": BIG, "s": BIG}, 3), BIG)
        self.assertEqual(splits_for(COIN, {"m": BIG, "s": BIG}, 2), 4 * BIG)
        self.assertIsNone(splits_for(COIN, {"m": BIG, "s": BIG}, 0))

    def test_order_of_errors(self):
        expect_catalogue_check(self, lambda catalogue: splits_for(catalogue, {"x": -1}, -1))
        expect(self, InvalidStock, "c", splits_for, COIN, {"m": -1, "c": -1}, -1)
        expect(self, InvalidNumber, -1, splits_for, COIN, {"m": 1}, -1)
        expect(self, InvalidNumber, -5, splits_for, COIN, {}, -5)


class ArgumentsTest(unittest.TestCase):
    def test_arguments_do_not_change(self):
        catalogue, stock, splits = copy.deepcopy(MIXED), {"s": 2, "l": 1, "d": 0}, {"s": 1, "m": 0}
        balanced(catalogue, stock, 3)
        heaviest(catalogue, stock, 3)
        splits_for(catalogue, stock, 3)
        displacement(catalogue, stock, splits)
        self.assertEqual(catalogue, MIXED)
        same(self, stock, {"s": 2, "l": 1, "d": 0})
        same(self, splits, {"s": 1, "m": 0})

    def test_whole_pieces_of_balanced_splits(self):
        found = balanced(MIXED, {"l": 2}, 5)
        same(self, found, {"l": 2, "m": 2, "n": 1})
        same(self, whole_pieces(MIXED, {"l": 2}, found), {"n": 3, "s": 5, "c": 1, "d": 1})


if __name__ == "__main__":
    unittest.main()
