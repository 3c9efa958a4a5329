import copy
import random
import unittest

from splitstock.errors import InvalidNumber, InvalidSplits, InvalidStep, InvalidStock, TooManySteps
from splitstock.stores import Store
from tests.cases import COIN, MIXED, chain, expect, expect_catalogue_check, same
from tests.model import Model, model_total, random_catalogue, random_splits, random_stock

BIG = 10 ** 30 - 1


def face(store):
    """All that a store tells about itself."""
    return [
        list(store.splits().items()),
        list(store.stock().items()),
        list(store.whole().items()),
        store.number(),
        store.next_split(),
        store.next_undo(),
    ]


def random_store(rng):
    """Arguments of a store that has at least one possible step."""
    while True:
        catalogue = random_catalogue(rng, rng.randint(2, 6))
        stock = random_stock(rng, catalogue)
        total = model_total(catalogue, stock)
        if 0 < total <= 60:
            return catalogue, stock, random_splits(rng, catalogue, stock), total


class ConstructorTest(unittest.TestCase):
    def test_catalogue_check_comes_first(self):
        expect_catalogue_check(self, lambda catalogue: Store(catalogue, {"x": -1}, {"y": -1}))

    def test_stock_check_comes_second(self):
        expect(self, InvalidStock, "a", Store, COIN, {"m": -1, "a": 0}, {"x": 1})
        expect(self, InvalidStock, "c", Store, COIN, {"m": -1, "c": -1})

    def test_splits_check_comes_third(self):
        expect(self, InvalidSplits, "x", Store, COIN, {"m": 1}, {"m": 2, "x": 0})
        expect(self, InvalidSplits, "m", Store, COIN, {"m": 1}, {"s": -1, "m": 2})
        expect(self, InvalidSplits, "s", Store, COIN, {"m": 1}, {"m": 1, "s": 3})
        expect(self, InvalidSplits, "c", Store, COIN, {"c": 1}, {"c": 1})

    def test_without_splits(self):
        stores = [Store(COIN, {"m": 1}), Store(COIN, {"m": 1}, None), Store(COIN, {"m": 1}, {})]
        for store in stores:
            self.assertEqual(face(store), [[], [("m", 1)], [("m", 1)], 0, "m", None])

    def test_by_name(self):
        store = Store(splits={"m": 1}, stock={"m": 1}, catalogue=COIN)
        same(self, store.whole(), {"s": 2})

    def test_two_stores_share_nothing(self):
        first, second = Store(COIN, {"m": 2}), Store(COIN, {"m": 2})
        first.split(2)
        first.receive("s", 1)
        self.assertEqual(face(second), face(Store(COIN, {"m": 2})))


class ReadingTest(unittest.TestCase):
    def test_dicts_are_in_order_and_without_zeros(self):
        store = Store(MIXED, {"d": 1, "s": 0, "n": 1, "m": 1, "l": 1}, {"s": 1, "n": 3, "m": 0, "l": 1})
        same(self, store.splits(), {"l": 1, "n": 3, "s": 1})
        same(self, store.stock(), {"l": 1, "m": 1, "n": 1, "d": 1})
        same(self, store.whole(), {"m": 2, "s": 2, "c": 5, "d": 5})
        self.assertEqual(store.number(), 5)

    def test_next_split_skips_split_pieces_and_atoms(self):
        self.assertEqual(Store(COIN, {"m": 1, "s": 1}).next_split(), "m")
        self.assertEqual(Store(COIN, {"m": 1, "s": 1}, {"m": 1}).next_split(), "s")
        self.assertIsNone(Store(COIN, {"m": 1}, {"m": 1, "s": 2}).next_split())
        self.assertIsNone(Store(COIN, {"c": 5}).next_split())
        self.assertIsNone(Store(COIN, {}).next_split())

    def test_next_split_passes_a_heavy_atom(self):
        store = Store([("h", 9, []), ("b", 2, ["a"]), ("a", 1, [])], {"h": 1, "b": 1})
        self.assertEqual(store.next_split(), "b")
        store.split()
        same(self, store.splits(), {"b": 1})

    def test_next_undo_takes_the_smallest(self):
        self.assertEqual(Store(COIN, {"m": 1, "s": 1}, {"m": 1}).next_undo(), "m")
        self.assertEqual(Store(COIN, {"m": 1, "s": 1}, {"m": 1, "s": 1}).next_undo(), "s")
        self.assertIsNone(Store(COIN, {"m": 1, "s": 1}).next_undo())

    def test_equal_weights(self):
        store = Store(MIXED, {"m": 1, "n": 1})
        self.assertEqual(store.next_split(), "m")
        store.split(2)
        same(self, store.splits(), {"m": 1, "n": 1})
        self.assertEqual(store.next_undo(), "n")

    def test_returned_dicts_are_new(self):
        store = Store(COIN, {"m": 2, "s": 1}, {"m": 1})
        before = face(store)
        for numbers in [store.splits(), store.stock(), store.whole()]:
            numbers["m"] = 77
            numbers["x"] = -1
        self.assertEqual(face(store), before)

    def test_passed_values_are_not_kept_or_modified(self):
        catalogue, stock, splits = copy.deepcopy(COIN), {"s": 1, "m": 2, "c": 0}, {"s": 1, "m": 1, "c": 0}
        store = Store(catalogue, stock, splits)
        history = [("split", 1), ("undo", 2)]
        store.run(history)
        store.split()
        store.undo()
        store.receive("m", 3)
        self.assertEqual(history, [("split", 1), ("undo", 2)])
        self.assertEqual(catalogue, COIN)
        same(self, stock, {"s": 1, "m": 2, "c": 0})
        same(self, splits, {"s": 1, "m": 1, "c": 0})
        before = face(store)
        catalogue[1][2].append("c")
        catalogue.clear()
        stock["m"] = 99
        splits.clear()
        self.assertEqual(face(store), before)
        store.split(4)
        same(self, store.splits(), {"m": 5})
        store.split(11)
        same(self, store.whole(), {"c": 22})


class StepsTest(unittest.TestCase):
    def test_single_steps_against_the_model(self):
        rng = random.Random(5)
        for _ in range(150):
            catalogue, stock, splits, total = random_store(rng)
            store, model = Store(catalogue, stock, splits), Model(catalogue, stock, splits)
            for _ in range(25):
                self.assertEqual(store.next_split(), model.next_split())
                self.assertEqual(store.next_undo(), model.next_undo())
                self.assertEqual(store.number(), model.number())
                if rng.random() < 0.5 and model.next_split():
                    self.assertIsNone(store.split())
                    model.split()
                elif model.next_undo():
                    self.assertIsNone(store.undo())
                    model.undo()
                same(self, store.splits(), model.tidy(model.splits))
                same(self, store.whole(), model.tidy(model.whole))

    def test_many_steps_against_single_steps(self):
        rng = random.Random(6)
        for _ in range(150):
            catalogue, stock, splits, total = random_store(rng)
            many, single = Store(catalogue, stock, splits), Store(catalogue, stock, splits)
            for _ in range(6):
                times = rng.randint(0, total - many.number())
                self.assertIsNone(many.split(times))
                for _ in range(times):
                    single.split()
                self.assertEqual(face(many), face(single))
                times = rng.randint(0, many.number())
                self.assertIsNone(many.undo(times=times))
                for _ in range(times):
                    single.undo()
                self.assertEqual(face(many), face(single))

    def test_default_is_one_step(self):
        store = Store(COIN, {"m": 2})
        store.split()
        self.assertEqual(store.number(), 1)
        store.split(1)
        store.undo()
        self.assertEqual(store.number(), 1)

    def test_zero_steps_change_nothing(self):
        for splits in [{}, {"m": 1}, {"m": 1, "s": 2}]:
            store = Store(COIN, {"m": 1}, splits)
            before = face(store)
            store.split(0)
            store.undo(0)
            self.assertEqual(face(store), before)
        empty = Store(COIN, {})
        empty.split(0)
        empty.undo(0)
        self.assertEqual(face(empty), [[], [], [], 0, None, None])

    def test_undo_takes_splits_from_several_kinds(self):
        store = Store(COIN, {"m": 2, "s": 1}, {"m": 2, "s": 5})
        store.undo(6)
        same(self, store.splits(), {"m": 1})

    def test_very_many_steps(self):
        catalogue, names = chain(20, 6)
        first, second, third = names[19], names[18], names[17]
        store = Store(catalogue, {first: BIG})
        total = BIG * (6 ** 19 - 1) // 5
        store.split(BIG * 7 + 5)
        same(self, store.splits(), {first: BIG, second: 6 * BIG, third: 5})
        store.split(total - BIG * 7 - 5)
        self.assertIsNone(store.next_split())
        expect(self, TooManySteps, 0, store.split, 10 ** 60 - 1)
        expect(self, TooManySteps, total, store.undo, 10 ** 60 - 1)
        store.undo(total - BIG - 3)
        same(self, store.splits(), {first: BIG, second: 3})
        store.undo(BIG + 3)
        same(self, store.splits(), {})

    def test_steps_of_sixty_digits(self):
        # Beyond the bounds of a catalogue, so that so many steps are possible.
        catalogue, names = chain(29, 12)
        store = Store(catalogue, {names[28]: BIG})
        total = BIG * (12 ** 28 - 1) // 11
        times = total - 1
        self.assertEqual(len(str(times)), 60)
        store.split(times)
        self.assertEqual(store.number(), times)
        expect(self, TooManySteps, 1, store.split, 2)
        store.run([("undo", times), ("split", times), ("undo", times - 1)])
        same(self, store.splits(), {names[28]: 1})

    def test_negative_times(self):
        for times in [-1, -(10 ** 59)]:
            store = Store(COIN, {"m": 1}, {"m": 1})
            before = face(store)
            expect(self, InvalidNumber, times, store.split, times)
            expect(self, InvalidNumber, times, store.undo, times)
            expect(self, InvalidNumber, times, store.undo, times=times)
            self.assertEqual(face(store), before)
        empty = Store(COIN, {})
        expect(self, InvalidNumber, -1, empty.split, -1)
        expect(self, InvalidNumber, -1, empty.undo, -1)

    def test_too_many_steps(self):
        store = Store(COIN, {"m": 2, "s": 1}, {"m": 1, "s": 2})
        before = face(store)
        expect(self, TooManySteps, 4, store.split, 5)
        expect(self, TooManySteps, 4, store.split, 10 ** 60)
        expect(self, TooManySteps, 3, store.undo, 4)
        expect(self, TooManySteps, 3, store.undo, 10 ** 60)
        self.assertEqual(face(store), before)
        store.split(4)
        expect(self, TooManySteps, 0, store.split)
        store.undo(7)
        expect(self, TooManySteps, 0, store.undo)
        same(self, store.splits(), {})


class CommuteTest(unittest.TestCase):
    def test_split_and_undo_commute(self):
        rng = random.Random(7)
        tried = 0
        while tried < 200:
            catalogue, stock, splits, total = random_store(rng)
            number = sum(splits.values())
            if not 0 < number < total:
                continue
            tried += 1
            first, second = Store(catalogue, stock, splits), Store(catalogue, stock, splits)
            first.split()
            first.undo()
            second.undo()
            second.split()
            self.assertEqual(face(first), face(second))

    def test_two_orders_of_the_same_steps(self):
        rng = random.Random(8)
        for _ in range(150):
            catalogue, stock, splits, total = random_store(rng)
            splits_at, undos = rng.randint(0, 12), rng.randint(0, 12)
            number = sum(splits.values())
            if not 0 <= number + splits_at - undos <= total:
                continue
            faces = [self.after_a_random_order(rng, catalogue, stock, splits, total, splits_at, undos)
                     for _ in range(3)]
            self.assertEqual(faces[0], faces[1])
            self.assertEqual(faces[0], faces[2])

    def after_a_random_order(self, rng, catalogue, stock, splits, total, left_splits, left_undos):
        store = Store(catalogue, stock, splits)
        while left_splits or left_undos:
            can_split = left_splits and store.number() < total
            can_undo = left_undos and store.number() > 0
            if not can_split and not can_undo:
                return None
            if can_split and (not can_undo or rng.random() < 0.5):
                store.split()
                left_splits -= 1
            else:
                store.undo()
                left_undos -= 1
        return face(store)


class RunTest(unittest.TestCase):
    def test_entries_run_in_order(self):
        store, other = Store(COIN, {"m": 3}, {"m": 1, "s": 2}), Store(COIN, {"m": 3}, {"m": 1, "s": 2})
        self.assertIsNone(store.run([("split", 2), ("undo", 4), ("split", 3), ("split", 0), ("undo", 0)]))
        other.split(2)
        other.undo(4)
        other.split(3)
        self.assertEqual(face(store), face(other))
        self.assertEqual(store.number(), 4)

    def test_order_decides_what_is_possible(self):
        store = Store(COIN, {"m": 1})
        store.run([("split", 3), ("undo", 3)])
        expect(self, TooManySteps, 0, store.run, [("undo", 3), ("split", 3)])

    def test_against_the_model(self):
        rng = random.Random(9)
        for _ in range(100):
            catalogue, stock, splits, total = random_store(rng)
            store, model = Store(catalogue, stock, splits), Model(catalogue, stock, splits)
            history = []
            for _ in range(rng.randint(0, 10)):
                if rng.random() < 0.5:
                    history.append(("split", rng.randint(0, total - model.number())))
                    for _ in range(history[-1][1]):
                        model.split()
                else:
                    history.append(("undo", rng.randint(0, model.number())))
                    for _ in range(history[-1][1]):
                        model.undo()
            store.run(history=history)
            same(self, store.splits(), model.tidy(model.splits))

    def test_empty_history(self):
        store = Store(COIN, {"m": 1}, {"m": 1})
        before = face(store)
        self.assertIsNone(store.run([]))
        self.assertEqual(face(store), before)

    def check_refused(self, error, index, history):
        with self.subTest(history=history):
            store = Store(COIN, {"m": 2, "s": 1}, {"m": 1, "s": 2})
            before, copied = face(store), list(history)
            expect(self, error, index, store.run, history)
            self.assertEqual(face(store), before)
            self.assertEqual(history, copied)

    def test_invalid_entries(self):
        self.check_refused(InvalidStep, 0, [("merge", 1)])
        self.check_refused(InvalidStep, 0, [("", 0)])
        self.check_refused(InvalidStep, 0, [("Split", 1)])
        self.check_refused(InvalidStep, 0, [("splits", 1)])
        self.check_refused(InvalidStep, 0, [("split", -1)])
        self.check_refused(InvalidStep, 0, [("undo", -1)])
        self.check_refused(InvalidStep, 2, [("split", 1), ("undo", 2), ("merge", 0)])
        self.check_refused(InvalidStep, 1, [("split", 1), ("undo", -2), ("merge", 0)])

    def test_invalid_entry_before_steps_that_are_not_possible(self):
        self.check_refused(InvalidStep, 2, [("split", 99), ("undo", 1), ("split", -1)])
        self.check_refused(InvalidStep, 1, [("undo", 99), ("merge", 1)])

    def test_entries_that_are_not_possible(self):
        self.check_refused(TooManySteps, 0, [("split", 5)])
        self.check_refused(TooManySteps, 0, [("undo", 4)])
        self.check_refused(TooManySteps, 1, [("split", 1), ("undo", 5), ("split", 99)])
        self.check_refused(TooManySteps, 2, [("undo", 3), ("split", 7), ("split", 1)])
        self.check_refused(TooManySteps, 2, [("split", 4), ("split", 0), ("split", 1), ("undo", 1)])
        self.check_refused(TooManySteps, 1, [("undo", 3), ("undo", 10 ** 60), ("split", 10 ** 60)])

    def test_all_that_is_possible_is_run(self):
        store = Store(COIN, {"m": 2, "s": 1}, {"m": 1, "s": 2})
        store.run([("split", 4), ("undo", 7), ("split", 7)])
        same(self, store.splits(), {"m": 2, "s": 5})


class ReceiveTest(unittest.TestCase):
    def test_adds_to_the_stock(self):
        store = Store(COIN, {"s": 1}, {"s": 1})
        self.assertIsNone(store.receive("s", 2))
        same(self, store.stock(), {"s": 3})
        same(self, store.whole(), {"s": 2, "c": 2})
        same(self, store.splits(), {"s": 1})

    def test_zero_changes_nothing(self):
        store = Store(COIN, {"s": 1}, {"s": 1})
        before = face(store)
        store.receive("m", 0)
        store.receive("s", 0)
        self.assertEqual(face(store), before)
        self.assertEqual(store, Store(COIN, {"s": 1}, {"s": 1}))

    def test_a_larger_new_kind(self):
        store = Store(COIN, {"s": 1}, {"s": 1})
        self.assertIsNone(store.next_split())
        store.receive(number=1, name="m")
        same(self, store.stock(), {"m": 1, "s": 1})
        self.assertEqual(store.next_split(), "m")
        self.assertEqual(store.next_undo(), "s")
        expect(self, TooManySteps, 3, store.split, 4)
        store.split(3)
        same(self, store.splits(), {"m": 1, "s": 3})

    def test_an_atom_and_a_large_number(self):
        store = Store(COIN, {})
        store.receive("c", BIG)
        store.receive("m", BIG)
        same(self, store.whole(), {"m": BIG, "c": BIG})
        store.split(3 * BIG)
        same(self, store.whole(), {"c": 5 * BIG})

    def test_against_a_new_store(self):
        rng = random.Random(10)
        for _ in range(100):
            catalogue, stock, splits, total = random_store(rng)
            store, more = Store(catalogue, stock, splits), dict(stock)
            name, number = rng.choice(catalogue)[0], rng.randint(0, 3)
            store.receive(name, number)
            more[name] = more.get(name, 0) + number
            self.assertEqual(face(store), face(Store(catalogue, more, splits)))
            self.assertEqual(store, Store(catalogue, more, splits))

    def test_errors(self):
        store = Store(COIN, {"m": 1}, {"m": 1})
        before = face(store)
        expect(self, InvalidStock, "x", store.receive, "x", 1)
        expect(self, InvalidStock, "x", store.receive, "x", -1)
        expect(self, InvalidStock, "x", store.receive, "x", 0)
        expect(self, InvalidNumber, -1, store.receive, "m", -1)
        expect(self, InvalidNumber, -(10 ** 30), store.receive, "c", -(10 ** 30))
        self.assertEqual(face(store), before)


class EqualTest(unittest.TestCase):
    def equal(self, first, second):
        self.assertTrue(first == second)
        self.assertTrue(second == first)
        self.assertFalse(first != second)

    def unequal(self, first, second):
        self.assertFalse(first == second)
        self.assertFalse(second == first)
        self.assertTrue(first != second)

    def test_equal_stores(self):
        store = Store(COIN, {"m": 1}, {"m": 1})
        self.equal(store, store)
        self.equal(store, Store(COIN, {"m": 1}, {"m": 1}))
        self.equal(store, Store(COIN[::-1], {"m": 1}, {"m": 1}))
        self.equal(store, Store(COIN, {"s": 0, "m": 1, "c": 0}, {"s": 0, "m": 1}))
        self.equal(Store(COIN, {}), Store(COIN, {"c": 0}, {"m": 0}))

    def test_parts_in_any_order(self):
        first = [("c", 1, []), ("d", 1, []), ("s", 3, ["c", "d", "c"])]
        second = [("s", 3, ["c", "c", "d"]), ("d", 1, []), ("c", 1, [])]
        self.equal(Store(first, {"s": 1}), Store(second, {"s": 1}))

    def test_number_of_parts_counts(self):
        first = [("c", 1, []), ("d", 1, []), ("s", 3, ["c", "d", "c"])]
        for parts in [["c", "d"], ["c", "d", "d"], ["c", "c", "d", "d"], []]:
            other = [("c", 1, []), ("d", 1, []), ("s", 3, parts)]
            self.unequal(Store(first, {"s": 1}), Store(other, {"s": 1}))

    def test_unequal_stores(self):
        store = Store(COIN, {"m": 1, "s": 1}, {"m": 1})
        self.unequal(store, Store(COIN, {"m": 1, "s": 1}, {"s": 1}))
        self.unequal(store, Store(COIN, {"m": 1, "s": 1}))
        self.unequal(store, Store(COIN, {"m": 1, "s": 2}, {"m": 1}))
        self.unequal(store, Store(COIN, {"m": 1}, {"m": 1}))
        self.unequal(store, Store(COIN + [("x", 1, [])], {"m": 1, "s": 1}, {"m": 1}))
        heavier = [("c", 1, []), ("s", 3, ["c", "c"]), ("m", 7, ["s", "s"])]
        self.unequal(store, Store(heavier, {"m": 1, "s": 1}, {"m": 1}))

    def test_after_steps(self):
        first, second = Store(COIN, {"m": 2}), Store(COIN, {"m": 2})
        first.split(2)
        self.unequal(first, second)
        second.run([("split", 3), ("undo", 1)])
        self.equal(first, second)

    def test_other_values(self):
        store = Store(COIN, {"m": 1}, {"m": 1})
        others = [None, 0, 1, "Store", {}, {"m": 1}, [], (), store.splits(), COIN, Store, object()]
        for other in others:
            self.unequal(store, other)

    def test_another_object_with_the_same_attributes(self):
        class Friend:
            pass

        friend = Friend()
        friend.__dict__.update(vars(Store(COIN, {})))
        self.unequal(Store(COIN, {}), friend)


if __name__ == "__main__":
    unittest.main()
