import copy
import random
import unittest

from splitstock.catalogues import kinds, pieces, total_splits, whole_pieces
from splitstock.errors import InvalidCatalogue, InvalidSplits, InvalidStock
from tests.cases import COIN, MIXED, chain, expect, expect_catalogue_check, same
from tests.model import Model, model_total, random_catalogue, random_splits, random_stock, small_cases

BIG = 10 ** 30 - 1


class KindsTest(unittest.TestCase):
    def test_greater_weight_first(self):
        self.assertEqual(kinds(COIN), ["m", "s", "c"])
        self.assertEqual(kinds([("b", 9, []), ("a", 10, [])]), ["a", "b"])

    def test_equal_weights_in_string_order(self):
        catalogue = [("b", 2, []), ("ab", 2, []), ("aa", 2, []), ("a", 2, []), ("z", 3, []), ("c", 2, [])]
        self.assertEqual(kinds(catalogue), ["z", "a", "aa", "ab", "b", "c"])

    def test_order_of_the_entries_does_not_matter(self):
        rng = random.Random(1)
        for _ in range(20):
            catalogue = rng.sample(MIXED, len(MIXED))
            self.assertEqual(kinds(catalogue), ["l", "m", "n", "s", "c", "d"])

    def test_one_entry_and_longest_name(self):
        self.assertEqual(kinds([("abcdefgh", 10 ** 12 - 1, [])]), ["abcdefgh"])

    def test_new_list_and_unchanged_argument(self):
        catalogue = copy.deepcopy(MIXED)
        found = kinds(catalogue)
        found.clear()
        self.assertEqual(kinds(catalogue=catalogue), ["l", "m", "n", "s", "c", "d"])
        self.assertEqual(catalogue, MIXED)

    def test_parts_may_stand_behind_their_piece(self):
        self.assertEqual(kinds([("b", 2, ["a"]), ("a", 1, [])]), ["b", "a"])


class CatalogueCheckTest(unittest.TestCase):
    def test_kinds(self):
        expect_catalogue_check(self, kinds)

    def test_pieces(self):
        expect_catalogue_check(self, lambda catalogue: pieces(catalogue, {"x": -1}, {"y": -1}))

    def test_whole_pieces(self):
        expect_catalogue_check(self, lambda catalogue: whole_pieces(catalogue, {"x": -1}, {"y": -1}))

    def test_total_splits(self):
        expect_catalogue_check(self, lambda catalogue: total_splits(catalogue, {"x": -1}))


class StockCheckTest(unittest.TestCase):
    CASES = [
        ("unknown", {"m": 1, "x": 1}, "x"),
        ("unknown with 0", {"x": 0}, "x"),
        ("negative", {"m": 1, "s": -1}, "s"),
        ("negative atom", {"c": -1}, "c"),
        ("very negative", {"m": -(10 ** 30)}, "m"),
        ("string order, not order of kinds", {"s": -1, "m": -1, "c": -1}, "c"),
        ("unknown behind negative", {"x": 1, "m": -1}, "m"),
        ("unknown before negative", {"m": -1, "b": 0}, "b"),
        ("several unknown", {"zz": 1, "za": 1, "z": 1}, "z"),
        ("no name of a catalogue", {"": 1}, ""),
    ]

    def check(self, call):
        for what, stock, name in self.CASES:
            with self.subTest(what):
                before = dict(stock)
                expect(self, InvalidStock, name, call, stock)
                same(self, stock, before)

    def test_pieces(self):
        self.check(lambda stock: pieces(COIN, stock, {"a": -1}))

    def test_whole_pieces(self):
        self.check(lambda stock: whole_pieces(COIN, stock, {"a": -1}))

    def test_total_splits(self):
        self.check(lambda stock: total_splits(COIN, stock))


class SplitsCheckTest(unittest.TestCase):
    STOCK = {"m": 2, "s": 1, "c": 5}
    CASES = [
        ("unknown", {"x": 1}, "x"),
        ("unknown with 0", {"x": 0}, "x"),
        ("unknown first, in string order", {"m": -1, "z": 1, "y": -1}, "y"),
        ("negative", {"s": -1}, "s"),
        ("negative atom", {"c": -1}, "c"),
        ("one more than pieces", {"m": 3}, "m"),
        ("one more than stock and parts", {"m": 1, "s": 4}, "s"),
        ("more than stock without splits of larger ones", {"s": 2}, "s"),
        ("splits of an atom", {"c": 1}, "c"),
        ("atom behind valid ones", {"m": 2, "s": 5, "c": 1}, "c"),
        ("largest first: too many, then negative", {"s": -1, "m": 3}, "m"),
        ("largest first: negative, then too many", {"s": 9, "m": -1}, "m"),
        ("largest first: kind before atom", {"c": 1, "s": 9}, "s"),
        ("negative before atom", {"c": 1, "m": -1}, "m"),
    ]

    def check(self, call):
        for what, splits, name in self.CASES:
            with self.subTest(what):
                before = dict(splits)
                expect(self, InvalidSplits, name, call, splits)
                same(self, splits, before)

    def test_pieces(self):
        self.check(lambda splits: pieces(COIN, self.STOCK, splits))

    def test_whole_pieces(self):
        self.check(lambda splits: whole_pieces(COIN, self.STOCK, splits))

    def test_equal_weights_in_string_order(self):
        splits = {"n": 1, "m": 1}
        expect(self, InvalidSplits, "m", pieces, MIXED, {}, splits)
        expect(self, InvalidSplits, "n", pieces, MIXED, {"l": 1}, {"l": 1, "n": 3, "s": 9})

    def test_largest_allowed_splits_are_valid(self):
        same(self, whole_pieces(COIN, self.STOCK, {"m": 2, "s": 5, "c": 0}), {"c": 15})


class PiecesTest(unittest.TestCase):
    def test_numbers(self):
        same(self, pieces(COIN, {"m": 2, "s": 1}, {"m": 1, "s": 3}), {"m": 2, "s": 3, "c": 6})
        same(self, whole_pieces(COIN, {"m": 2, "s": 1}, {"m": 1, "s": 3}), {"m": 1, "c": 6})

    def test_no_pieces(self):
        for stock, splits in [({}, {}), ({"m": 0}, {"s": 0}), ({}, {"c": 0})]:
            same(self, pieces(COIN, stock, splits), {})
            same(self, whole_pieces(COIN, stock, splits), {})

    def test_order_and_zeros(self):
        stock = {"d": 1, "s": 0, "n": 1, "m": 1, "l": 1}
        same(self, pieces(MIXED, stock, {"s": 0}), {"l": 1, "m": 1, "n": 1, "d": 1})
        same(self, pieces(MIXED, stock, {"n": 2, "l": 1}), {"l": 1, "m": 2, "n": 3, "s": 2, "c": 2, "d": 3})
        same(self, whole_pieces(MIXED, stock, {"n": 3, "l": 1}), {"m": 2, "s": 3, "c": 3, "d": 4})

    def test_by_name(self):
        named = {"splits": {"s": 1}, "stock": {"s": 2}, "catalogue": COIN}
        same(self, pieces(**named), {"s": 2, "c": 2})
        same(self, whole_pieces(**named), {"s": 1, "c": 2})

    def test_large_numbers(self):
        splits = {"m": BIG, "s": 3 * BIG}
        same(self, pieces(COIN, {"m": BIG, "s": BIG}, splits), {"m": BIG, "s": 3 * BIG, "c": 6 * BIG})
        same(self, whole_pieces(COIN, {"m": BIG, "s": BIG}, splits), {"c": 6 * BIG})
        expect(self, InvalidSplits, "s", pieces, COIN, {"m": BIG, "s": BIG}, {"m": BIG, "s": 3 * BIG + 1})

    def test_against_the_model(self):
        rng = random.Random(2)
        for _ in range(300):
            catalogue = random_catalogue(rng, rng.randint(1, 6))
            stock = random_stock(rng, catalogue)
            splits = random_splits(rng, catalogue, stock)
            model = Model(catalogue, stock, splits)
            same(self, pieces(catalogue, stock, splits), model.tidy(model.pieces()))
            same(self, whole_pieces(catalogue, stock, splits), model.tidy(model.whole))

    def test_arguments_and_results_are_separate(self):
        for call in [pieces, whole_pieces]:
            catalogue, stock, splits = copy.deepcopy(COIN), {"s": 2, "m": 0}, {"s": 1, "c": 0}
            first = call(catalogue, stock, splits)
            wanted = dict(first)
            first.clear()
            same(self, call(catalogue, stock, splits), wanted)
            self.assertEqual(catalogue, COIN)
            same(self, stock, {"s": 2, "m": 0})
            same(self, splits, {"s": 1, "c": 0})


class TotalTest(unittest.TestCase):
    def test_small(self):
        self.assertEqual(total_splits(COIN, {"m": 2, "s": 1}), 7)
        self.assertEqual(total_splits(COIN, {"m": 1}), 3)
        self.assertEqual(total_splits(COIN, {}), 0)
        self.assertEqual(total_splits(stock={"c": 9, "m": 0}, catalogue=COIN), 0)

    def test_against_piece_by_piece(self):
        for catalogue, stock in small_cases(3, 200, 60):
            self.assertEqual(total_splits(catalogue, stock), model_total(catalogue, stock))

    def test_does_not_depend_on_the_order_of_splits(self):
        rng = random.Random(4)
        for catalogue, stock in small_cases(4, 50, 40):
            model = Model(catalogue, stock)
            while model.can_split():
                model.split_kind(rng.choice(model.can_split()))
            self.assertEqual(total_splits(catalogue, stock), model.number())

    def test_large(self):
        self.assertEqual(total_splits(COIN, {"m": BIG, "s": BIG, "c": BIG}), 4 * BIG)

    def test_twenty_kinds_with_six_parts(self):
        catalogue, names = chain(20, 6)
        stock = {names[19]: BIG}
        self.assertEqual(total_splits(catalogue, stock), BIG * (6 ** 19 - 1) // 5)
        splits = {names[at]: BIG * 6 ** (19 - at) for at in range(1, 20)}
        same(self, whole_pieces(catalogue, stock, splits), {names[0]: BIG * 6 ** 19})

    def test_arguments_do_not_change(self):
        catalogue, stock = copy.deepcopy(COIN), {"s": 1, "m": 2, "c": 0}
        total_splits(catalogue, stock)
        self.assertEqual(catalogue, COIN)
        same(self, stock, {"s": 1, "m": 2, "c": 0})

    def test_catalogue_is_checked_before_stock(self):
        expect(self, InvalidCatalogue, 0, total_splits, [], {"x": -1})


if __name__ == "__main__":
    unittest.main()
