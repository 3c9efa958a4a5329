"""What the document promises over the whole program, for all valid splits of small stocks."""

import random
import unittest

from splitstock.balance import balanced, displacement, heaviest, splits_for
from splitstock.catalogues import kinds, pieces, total_splits, whole_pieces
from splitstock.counting import count_states, states
from splitstock.errors import TooManySteps
from splitstock.readings import read_catalogue, read_numbers
from splitstock.stores import Store
from splitstock.texts import show_catalogue, show_numbers
from splitstock.ways import count_ways, distance, way
from tests.cases import same
from tests.model import Model, all_splits, small_cases


def by_number(catalogue, stock):
    """All valid splits, by how many pieces are split."""
    found = {}
    for splits in all_splits(catalogue, stock):
        found.setdefault(sum(splits.values()), []).append(splits)
    return found


class StepsTest(unittest.TestCase):
    """Points [9] and [10]."""

    def test_a_split_step_takes_the_largest(self):
        for catalogue, stock in small_cases(61, 60, 10):
            weights = {name: weight for name, weight, parts in catalogue}
            parts = {name: parts for name, weight, parts in catalogue}
            total = total_splits(catalogue, stock)
            for splits in all_splits(catalogue, stock):
                store, whole = Store(catalogue, stock, splits), whole_pieces(catalogue, stock, splits)
                names = sorted((-weights[name], name) for name in whole if parts[name])
                self.assertEqual(store.next_split() is not None, store.number() < total)
                if names:
                    self.assertEqual(store.next_split(), names[0][1])
                    store.split()
                    self.assertEqual(distance(catalogue, stock, splits, store.splits()), 1)
                    self.assertEqual(way(catalogue, stock, splits, store.splits()), [("split", names[0][1], 1)])
                else:
                    self.assertIsNone(store.next_split())
                    self.assertRaises(TooManySteps, store.split)

    def test_an_undo_step_takes_the_smallest(self):
        for catalogue, stock in small_cases(62, 60, 10):
            weights = {name: weight for name, weight, parts in catalogue}
            parts = {name: parts for name, weight, parts in catalogue}
            for splits in all_splits(catalogue, stock):
                store, whole = Store(catalogue, stock, splits), whole_pieces(catalogue, stock, splits)
                names = sorted((-weights[name], name) for name in splits)
                self.assertEqual(store.next_undo() is not None, store.number() > 0)
                if names:
                    smallest = names[-1][1]
                    self.assertEqual(store.next_undo(), smallest)
                    for part in parts[smallest]:
                        self.assertGreaterEqual(whole[part], parts[smallest].count(part))
                    store.undo()
                    self.assertEqual(way(catalogue, stock, splits, store.splits()), [("undo", smallest, 1)])
                else:
                    self.assertIsNone(store.next_undo())
                    self.assertRaises(TooManySteps, store.undo)

    def test_splitting_ends_at_the_total(self):
        for catalogue, stock in small_cases(63, 60, 10):
            total = total_splits(catalogue, stock)
            for splits in all_splits(catalogue, stock):
                store = Store(catalogue, stock, splits)
                store.split(total - store.number())
                self.assertIsNone(store.next_split())
                self.assertEqual(store.number(), total)


class CommuteTest(unittest.TestCase):
    """Point [11]."""

    def test_one_step_of_each_kind(self):
        for catalogue, stock in small_cases(64, 100, 10):
            total = total_splits(catalogue, stock)
            for splits in all_splits(catalogue, stock):
                if 0 < sum(splits.values()) < total:
                    first, second = Store(catalogue, stock, splits), Store(catalogue, stock, splits)
                    first.run([("split", 1), ("undo", 1)])
                    second.run([("undo", 1), ("split", 1)])
                    self.assertEqual(first, second)

    def test_histories_with_the_same_numbers(self):
        rng = random.Random(65)
        for catalogue, stock in small_cases(65, 40, 9):
            total = total_splits(catalogue, stock)
            for splits in all_splits(catalogue, stock):
                number = sum(splits.values())
                ups = rng.randint(0, total)
                downs = rng.randint(0, number + ups)
                behind = []
                for _ in range(3):
                    history = [("split", 1)] * ups + [("undo", 1)] * downs
                    rng.shuffle(history)
                    store = Store(catalogue, stock, splits)
                    try:
                        store.run(history)
                    except TooManySteps:
                        continue
                    behind.append(store.splits())
                for other in behind:
                    self.assertEqual(other, behind[0])


class BalanceTest(unittest.TestCase):
    """Points [12] and [13]."""

    def test_displacement(self):
        for catalogue, stock in small_cases(66, 100, 10):
            total = total_splits(catalogue, stock)
            for splits in all_splits(catalogue, stock):
                number = sum(splits.values())
                far, best = displacement(catalogue, stock, splits), balanced(catalogue, stock, number)
                self.assertEqual(far, sum(max(0, splits[name] - best.get(name, 0)) for name in splits))
                # As many steps of both kinds as the displacement are possible and enough.
                self.assertLessEqual(far, min(number, total - number))
                for history in [[("split", far), ("undo", far)], [("undo", far), ("split", far)]]:
                    store = Store(catalogue, stock, splits)
                    store.run(history)
                    same(self, store.splits(), best)
                if far > 0:
                    for history in [[("split", 1), ("undo", 1)], [("undo", 1), ("split", 1)]]:
                        store = Store(catalogue, stock, splits)
                        store.run(history)
                        self.assertEqual(displacement(catalogue, stock, store.splits()), far - 1)

    def test_balanced_splits_are_best(self):
        for catalogue, stock in small_cases(67, 100, 10):
            order = kinds(catalogue)
            for number, rows in by_number(catalogue, stock).items():
                if number > 0:
                    weights = [Model(catalogue, stock, splits).heaviest() or 0 for splits in rows]
                    self.assertEqual(heaviest(catalogue, stock, number) or 0, min(weights))
                    smallest = [max(order.index(name) for name in splits) for splits in rows]
                    ours = max(order.index(name) for name in balanced(catalogue, stock, number))
                    self.assertEqual(ours, min(smallest))

    def test_splits_for_is_the_first_number_that_is_enough(self):
        for catalogue, stock in small_cases(68, 60, 10):
            numbers = range(total_splits(catalogue, stock) + 1)
            for limit in range(11):
                good = [number for number in numbers if (heaviest(catalogue, stock, number) or 0) <= limit]
                self.assertEqual(splits_for(catalogue, stock, limit), min(good, default=None))


class CountingTest(unittest.TestCase):
    def test_states_are_all_valid_splits(self):
        for catalogue, stock in small_cases(69, 80, 10):
            total, count = total_splits(catalogue, stock), 0
            for number in range(total + 1):
                rows = states(catalogue, stock, number)
                self.assertIn(balanced(catalogue, stock, number), rows)
                for splits in rows:
                    self.assertEqual(sum(splits.values()), number)
                    same(self, Store(catalogue, stock, splits).splits(), splits)
                count += len(rows)
            self.assertEqual(count, count_states(catalogue, stock))

    def test_ways_between_neighbours_and_back(self):
        for catalogue, stock in small_cases(70, 20, 7):
            for first in all_splits(catalogue, stock):
                for second in all_splits(catalogue, stock):
                    far = distance(catalogue, stock, first, second)
                    self.assertEqual(sum(times for step, name, times in way(catalogue, stock, first, second)), far)
                    self.assertLessEqual(1, count_ways(catalogue, stock, first, second))
                    self.assertEqual(far == 0, first == second)


class TextsTest(unittest.TestCase):
    def test_written_and_read_again(self):
        for catalogue, stock in small_cases(71, 80, 10):
            again, stock_again = read_catalogue(show_catalogue(catalogue)), read_numbers(show_numbers(stock))
            self.assertEqual(kinds(again), kinds(catalogue))
            self.assertEqual(total_splits(again, stock_again), total_splits(catalogue, stock))
            for splits in all_splits(catalogue, stock):
                splits_again = read_numbers(show_numbers(splits))
                same(self, pieces(again, stock_again, splits_again), pieces(catalogue, stock, splits))
                same(self, whole_pieces(again, stock_again, splits_again), whole_pieces(catalogue, stock, splits))
                self.assertEqual(Store(again, stock_again, splits_again), Store(catalogue, stock, splits))


if __name__ == "__main__":
    unittest.main()
