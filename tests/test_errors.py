import unittest

from splitstock import errors

NAMES = [
    "InvalidCatalogue",
    "InvalidStock",
    "InvalidSplits",
    "InvalidStep",
    "InvalidNumber",
    "TooManySteps",
    "InvalidText",
]


class ErrorsTest(unittest.TestCase):
    def test_base_is_a_direct_subclass_of_value_error(self):
        self.assertEqual(errors.StoreError.__bases__, (ValueError,))

    def test_each_class_is_a_direct_subclass_of_the_base(self):
        for name in NAMES:
            with self.subTest(name):
                self.assertEqual(getattr(errors, name).__bases__, (errors.StoreError,))

    def test_no_other_classes_and_all_defined_here(self):
        found = [name for name, thing in vars(errors).items() if isinstance(thing, type)]
        self.assertEqual(sorted(found), sorted(NAMES + ["StoreError"]))
        for name in found:
            self.assertEqual(getattr(errors, name).__module__, "splitstock.errors")

    def test_one_argument_by_position_or_as_value(self):
        for name in NAMES:
            kind = getattr(errors, name)
            for value in [0, 7, -1, 10 ** 60, "m", "", "a b", None]:
                with self.subTest(name, value=value):
                    self.assertEqual(kind(value).value, value)
                    self.assertEqual(kind(value=value).value, value)

    def test_no_other_arguments(self):
        for name in NAMES:
            with self.subTest(name):
                kind = getattr(errors, name)
                self.assertRaises(TypeError, kind)
                self.assertRaises(TypeError, kind, 1, 2)

    def test_caught_as_the_base_and_as_value_error(self):
        for name in NAMES:
            for base in [errors.StoreError, ValueError]:
                with self.subTest(name, base=base):
                    with self.assertRaises(base):
                        raise getattr(errors, name)(1)


if __name__ == "__main__":
    unittest.main()
