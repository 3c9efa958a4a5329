import copy
import math
import random
import unittest

from splitstock.errors import InvalidSplits, InvalidStock
from splitstock.stores import Store
from splitstock.ways import count_ways, distance, way
from tests.cases import COIN, MIXED, chain, expect, expect_catalogue_check
from tests.model import Model, as_key, search, small_cases, step_graph

BIG = 10 ** 30 - 1

# The part x is in both a and b, so its splits can move from one to the other.
SHARED = [("a", 9, ["x", "u"]), ("b", 8, ["x", "v"]), ("x", 5, ["c", "c"]), ("u", 4, []), ("v", 3, []), ("c", 2, [])]

CALLS = [distance, way, count_ways]


def replay(case, catalogue, stock, first, found):
    """The splits behind a way, each step of which is checked by the model; and its length."""
    model, length = Model(catalogue, stock, first), 0
    for row in found:
        case.assertIs(type(row), tuple)
        step, name, times = row
        case.assertIn(step, ["split", "undo"])
        case.assertIs(type(times), int)
        case.assertGreater(times, 0)
        for _ in range(times):
            if step == "split":
                model.split_kind(name)
            else:
                model.undo_kind(name)
        length += times
    return model.tidy(model.splits), length


class AgainstSearchTest(unittest.TestCase):
    """Each pair of valid splits of small stores, against a search over all of them."""

    def test_all_pairs(self):
        pairs = bound = 0
        for catalogue, stock in small_cases(31, 250, 9):
            by_key, graph = step_graph(catalogue, stock)
            for start, first in by_key.items():
                far, ways = search(graph, start)
                self.assertEqual(sorted(far), sorted(by_key))
                for end, second in by_key.items():
                    self.assertEqual(distance(catalogue, stock, first, second), far[end])
                    self.assertEqual(count_ways(catalogue, stock, first, second), ways[end])
                    found = way(catalogue, stock, first, second)
                    behind, length = replay(self, catalogue, stock, first, found)
                    self.assertEqual((as_key(behind), length), (end, far[end]))
                    pairs += 1
                    bound += ways[end] != free_ways(first, second)
        self.assertLess(10000, pairs)
        self.assertLess(1000, bound)

    def test_longer_ways(self):
        rng = random.Random(32)
        for catalogue, stock in small_cases(32, 40, 14):
            by_key, graph = step_graph(catalogue, stock)
            start = rng.choice(sorted(by_key))
            far, ways = search(graph, start)
            for end in rng.sample(sorted(by_key), min(20, len(by_key))):
                args = (catalogue, stock, by_key[start], by_key[end])
                self.assertEqual(distance(*args), far[end])
                self.assertEqual(count_ways(*args), ways[end])

    def test_symmetric(self):
        for catalogue, stock in small_cases(33, 30, 8):
            by_key, graph = step_graph(catalogue, stock)
            for first in by_key.values():
                for second in by_key.values():
                    self.assertEqual(distance(catalogue, stock, first, second),
                                     distance(catalogue, stock, second, first))
                    self.assertEqual(count_ways(catalogue, stock, first, second),
                                     count_ways(catalogue, stock, second, first))


def free_ways(first, second):
    """The number of shortest ways if every order of the steps is possible."""
    steps = [abs(first.get(name, 0) - second.get(name, 0)) for name in {**first, **second}]
    ways = math.factorial(sum(steps))
    for many in steps:
        ways //= math.factorial(many)
    return ways


class DistanceTest(unittest.TestCase):
    def test_examples(self):
        self.assertEqual(distance(SHARED, {"a": 1, "b": 1}, {"a": 1, "x": 1}, {"b": 1, "x": 1}), 2)
        self.assertEqual(distance(COIN, {"m": 2, "s": 1}, {"m": 1, "s": 3}, {"m": 2}), 4)
        self.assertEqual(distance(second={}, first={"m": 1}, stock={"m": 1}, catalogue=COIN), 1)

    def test_equal_splits(self):
        for first, second in [({}, {}), ({"m": 1}, {"m": 1}), ({"m": 1, "s": 0}, {"c": 0, "m": 1})]:
            self.assertEqual(distance(COIN, {"m": 2}, first, second), 0)

    def test_empty_stock_and_atoms_alone(self):
        self.assertEqual(distance(COIN, {}, {}, {"s": 0}), 0)
        self.assertEqual(distance([("a", 1, []), ("b", 1, [])], {"a": BIG}, {"a": 0}, {}), 0)

    def test_large(self):
        stock = {"m": BIG, "s": BIG}
        self.assertEqual(distance(COIN, stock, {}, {"m": BIG, "s": 3 * BIG}), 4 * BIG)
        self.assertEqual(distance(COIN, stock, {"m": BIG, "s": 3 * BIG}, {}), 4 * BIG)
        self.assertEqual(distance(COIN, stock, {"m": BIG, "s": 1}, {"m": 1, "s": BIG}), 2 * BIG - 2)

    def test_twenty_kinds(self):
        catalogue, names = chain(20, 6)
        full = {names[at]: BIG * 6 ** (19 - at) for at in range(1, 20)}
        self.assertEqual(distance(catalogue, {names[19]: BIG}, full, {}), BIG * (6 ** 19 - 1) // 5)


class WayTest(unittest.TestCase):
    def test_equal_splits(self):
        for first, second in [({}, {}), ({"m": 1}, {"m": 1}), ({"m": 1, "s": 0}, {"c": 0, "m": 1})]:
            self.assertEqual(way(COIN, {"m": 2}, first, second), [])
        self.assertEqual(way([("a", 1, [])], {"a": 4}, {}, {"a": 0}), [])

    def test_only_possible_ways(self):
        stock = {"a": 1, "b": 1}
        wanted = [("split", "b", 1), ("undo", "a", 1)]
        self.assertEqual(way(SHARED, stock, {"a": 1, "x": 1}, {"b": 1, "x": 1}), wanted)
        wanted = [("split", "m", 1), ("split", "s", 2)]
        self.assertEqual(way(COIN, {"m": 1}, {}, {"m": 1, "s": 2}), wanted)
        wanted = [("undo", "s", 2), ("undo", "m", 1)]
        self.assertEqual(way(second={}, first={"s": 2, "m": 1}, stock={"m": 1}, catalogue=COIN), wanted)

    def test_a_part_that_occurs_several_times(self):
        found = way(MIXED, {"l": 1}, {"l": 1, "n": 2, "m": 1, "s": 4}, {})
        self.assertEqual(replay(self, MIXED, {"l": 1}, {"l": 1, "n": 2, "m": 1, "s": 4}, found), ({}, 8))

    def test_large(self):
        stock = {"m": BIG, "s": BIG}
        self.check_large(COIN, stock, {}, {"m": BIG, "s": 3 * BIG})
        self.check_large(COIN, stock, {"m": BIG, "s": 3 * BIG}, {"m": 7})
        self.check_large(COIN, stock, {"m": 2, "s": BIG}, {"m": BIG, "s": 2})
        catalogue, names = chain(20, 6)
        full = {names[at]: BIG * 6 ** (19 - at) for at in range(1, 20)}
        self.check_large(catalogue, {names[19]: BIG}, {}, full)
        self.check_large(catalogue, {names[19]: BIG}, full, {})

    def check_large(self, catalogue, stock, first, second):
        """Splits between two entries of a way are valid if those at its entries are."""
        splits, length = dict(first), 0
        for step, name, times in way(catalogue, stock, first, second):
            splits[name] = splits.get(name, 0) + (times if step == "split" else -times)
            Store(catalogue, stock, splits)
            length += times
        self.assertEqual(as_key(splits), as_key(second))
        self.assertEqual(length, distance(catalogue, stock, first, second))

    def test_returned_lists_are_new(self):
        args = (COIN, {"m": 1}, {}, {"m": 1})
        found = way(*args)
        found.clear()
        self.assertEqual(way(*args), [("split", "m", 1)])


class CountWaysTest(unittest.TestCase):
    def test_examples(self):
        self.assertEqual(count_ways(COIN, {"m": 1, "s": 1}, {}, {"m": 1, "s": 1}), 2)
        self.assertEqual(count_ways(SHARED, {"a": 1, "b": 1}, {"a": 1, "x": 1}, {"b": 1, "x": 1}), 1)
        self.assertEqual(count_ways(second={}, first={"m": 1}, stock={"m": 1}, catalogue=COIN), 1)

    def test_equal_splits(self):
        for first, second in [({}, {}), ({"m": 1}, {"m": 1}), ({"m": 1, "s": 0}, {"c": 0, "m": 1})]:
            self.assertEqual(count_ways(COIN, {"m": 2}, first, second), 1)
        self.assertEqual(count_ways(COIN, {}, {}, {}), 1)
        self.assertEqual(count_ways([("a", 1, [])], {"a": 4}, {}, {"a": 0}), 1)

    def test_pieces_are_not_told_apart(self):
        self.assertEqual(count_ways(COIN, {"s": 12}, {}, {"s": 12}), 1)
        self.assertEqual(count_ways(COIN, {"s": BIG}, {"s": BIG}, {"s": BIG - 12}), 1)

    def test_twelve_free_kinds(self):
        catalogue = [("c", 1, [])] + [(chr(100 + at), 2 + at, ["c"]) for at in range(12)]
        stock = {chr(100 + at): BIG for at in range(12)}
        ones = {chr(100 + at): 1 for at in range(12)}
        self.assertEqual(count_ways(catalogue, stock, {}, ones), math.factorial(12))
        self.assertEqual(count_ways(catalogue, stock, ones, {}), math.factorial(12))

    def test_one_order_only(self):
        catalogue, names = chain(13, 1)
        ones = {names[at]: 1 for at in range(1, 13)}
        self.assertEqual(count_ways(catalogue, {names[12]: 1}, {}, ones), 1)
        self.assertEqual(count_ways(catalogue, {names[12]: 1}, ones, {}), 1)
        self.assertEqual(count_ways(catalogue, {names[12]: BIG, names[1]: 11}, {}, ones), 12)

    def test_known_numbers(self):
        single = [("c", 1, []), ("s", 2, ["c"]), ("m", 3, ["s"])]
        for shift in [0, 5, BIG - 6]:
            # Catalan: a split s must not come before its m.
            first, second = {"m": shift, "s": shift}, {"m": shift + 6, "s": shift + 6}
            self.assertEqual(count_ways(single, {"m": BIG}, first, second), 132)
            self.assertEqual(count_ways(single, {"m": BIG}, second, first), 132)
            self.assertEqual(count_ways(single, {"m": BIG, "s": 6}, first, second), math.comb(12, 6))
            # Each m makes two s.
            first, second = {"m": shift, "s": 2 * shift}, {"m": shift + 4, "s": 2 * shift + 8}
            self.assertEqual(count_ways(COIN, {"m": BIG}, first, second), 55)
            self.assertEqual(count_ways(COIN, {"m": BIG}, second, first), 55)

    def test_opposite_steps_of_large_numbers(self):
        # Splits of b and undo steps of a need x, which has no whole piece at first.
        for shift in [0, BIG - 8]:
            stock = {"a": BIG, "b": BIG}
            first = {"a": shift + 5, "x": shift + 5}
            second = {"a": shift, "b": 5, "x": shift + 5}
            self.assertEqual(count_ways(SHARED, stock, first, second), 42)
            self.assertEqual(count_ways(SHARED, stock, second, first), 42)
            second = {"a": shift, "b": 6, "x": shift + 6}
            self.assertEqual(count_ways(SHARED, stock, first, second), self.by_definition(5, 6, 1))

    def by_definition(self, undos, splits, more):
        """Orders of undo steps of a, splits of b and of x that never need an x that is not there."""
        if undos == splits == more == 0:
            return 1
        found = 0
        for after in [(undos - 1, splits, more), (undos, splits - 1, more), (undos, splits, more - 1)]:
            whole = (6 - after[1]) - (5 - after[0]) - (1 - after[2])
            if min(after) >= 0 and whole >= 0:
                found += self.by_definition(*after)
        return found

    def test_somewhat_beyond_the_bounds(self):
        catalogue, names = chain(17, 1)
        ones = {names[at]: 1 for at in range(1, 17)}
        self.assertEqual(count_ways(catalogue, {names[16]: 1}, {}, ones), 1)
        self.assertEqual(count_ways(COIN, {"m": BIG, "s": BIG}, {}, {"m": 10, "s": 10}), math.comb(20, 10))

    def test_free_steps_beside_bound_ones(self):
        catalogue = COIN + [("k", 2, ["c"]), ("l", 2, ["c", "c"])]
        first, second = {"l": 3}, {"m": 1, "s": 2, "k": 2, "l": 1}
        # m before both s; two k and two undo steps of l anywhere.
        wanted = math.factorial(7) // (math.factorial(3) * 2 * 2)
        self.assertEqual(count_ways(catalogue, {"m": 1, "k": 2, "l": 3}, first, second), wanted)


class ErrorsTest(unittest.TestCase):
    def test_catalogue_first(self):
        for call in CALLS:
            expect_catalogue_check(self, lambda catalogue: call(catalogue, {"x": -1}, {"y": 1}, {"z": 1}))

    def test_then_stock(self):
        for call in CALLS:
            expect(self, InvalidStock, "c", call, COIN, {"m": -1, "c": -1}, {"x": 1}, {"y": 1})
            expect(self, InvalidStock, "x", call, COIN, {"x": 0, "y": 1}, {}, {"y": 1})

    def test_then_the_first_splits(self):
        for call in CALLS:
            expect(self, InvalidSplits, "x", call, COIN, {"m": 1}, {"m": 2, "x": 0}, {"a": 1})
            expect(self, InvalidSplits, "s", call, COIN, {"m": 1}, {"s": 1}, {"m": 2})
            expect(self, InvalidSplits, "c", call, COIN, {"c": 1}, {"c": 1}, {"m": 1})
            expect(self, InvalidSplits, "m", call, COIN, {"m": 1}, {"s": 9, "m": -1}, {"x": 1})

    def test_then_the_second_splits(self):
        for call in CALLS:
            expect(self, InvalidSplits, "x", call, COIN, {"m": 1}, {"m": 1}, {"m": 2, "x": 0})
            expect(self, InvalidSplits, "m", call, COIN, {"m": 1}, {"m": 1}, {"s": -1, "m": 2})
            expect(self, InvalidSplits, "s", call, COIN, {"m": 1}, {"m": 1, "s": 2}, {"s": 1})
            expect(self, InvalidSplits, "c", call, COIN, {"m": 1, "c": 1}, {}, {"c": 1})


class ArgumentsTest(unittest.TestCase):
    def test_arguments_do_not_change(self):
        for call in CALLS:
            args = (copy.deepcopy(MIXED), {"s": 2, "l": 1, "d": 0}, {"s": 1, "m": 0}, {"l": 1, "n": 1})
            before = copy.deepcopy(args)
            call(*args)
            self.assertEqual(args, before)
            self.assertEqual([list(numbers) for numbers in args[1:]], [list(numbers) for numbers in before[1:]])

    def test_by_name_and_by_position(self):
        for catalogue, stock in small_cases(34, 40, 12):
            full = Model(catalogue, stock)
            while full.can_split():
                full.split()
            for call in CALLS:
                named = call(first={}, second=full.splits, catalogue=catalogue, stock=stock)
                self.assertEqual(named, call(catalogue, stock, {}, full.splits))


if __name__ == "__main__":
    unittest.main()
