import copy
import itertools
import random
import unittest

from splitstock.errors import InvalidText
from splitstock.readings import read_catalogue, read_numbers
from splitstock.texts import show_catalogue, show_numbers
from tests.cases import COIN, MIXED, expect, same
from tests.model import model_read_catalogue, model_read_numbers, random_catalogue, random_stock

SIXTY = int("9" * 60)


def letters(at):
    """A name of its own for each number below 26 ** 3."""
    return chr(97 + at // 676) + chr(97 + at // 26 % 26) + chr(97 + at % 26)


def check_numbers(case, text):
    """Compare the reader with the slow one; tell whether the text is valid."""
    wanted = model_read_numbers(text)
    if wanted is None:
        expect(case, InvalidText, text, read_numbers, text)
    else:
        same(case, read_numbers(text), wanted)
    return wanted is not None


def check_catalogue(case, text):
    """Compare the reader with the slow one; tell whether the text is valid."""
    wanted = model_read_catalogue(text)
    if wanted is None:
        expect(case, InvalidText, text, read_catalogue, text)
    else:
        found = read_catalogue(text)
        case.assertEqual(found, wanted)
        case.assertIs(type(found), list)
        for name, weight, parts in found:
            case.assertEqual([type(name), type(weight), type(parts)], [str, int, list])
    return wanted is not None


def changed(rng, text):
    """The text with a small change, often a wrong one."""
    at = rng.randint(0, len(text))
    kind = rng.randrange(4)
    if kind == 0:
        return text[:at] + text[at + 1:]
    if kind == 1:
        return text[:at] + rng.choice("abcmsz019:, -AZ_.~\t\n") + text[at:]
    if kind == 2:
        return text[:at] + rng.choice("abcmsz019:, -AZ_.~\t\n") + text[at + 1:]
    other = rng.randint(0, len(text))
    return text[:at] + text[min(at, other):other] + text[at:]


class ShowNumbersTest(unittest.TestCase):
    def test_examples(self):
        self.assertEqual(show_numbers({"s": 2, "m": 10, "c": 0}), "m:10 s:2")
        self.assertEqual(show_numbers({"c": 1}), "c:1")
        self.assertEqual(show_numbers(numbers={"b": 1, "ab": 2, "a": 3, "abcdefgh": 4}), "a:3 ab:2 abcdefgh:4 b:1")

    def test_none_above_zero(self):
        for numbers in [{}, {"c": 0}, {"m": 0, "s": 0}]:
            self.assertEqual(show_numbers(numbers), "-")

    def test_large(self):
        self.assertEqual(show_numbers({"c": SIXTY}), "c:" + "9" * 60)
        many = {letters(at): at + 1 for at in range(300)}
        wanted = " ".join(f"{letters(at)}:{at + 1}" for at in range(300))
        self.assertEqual(show_numbers(dict(reversed(list(many.items())))), wanted)

    def test_argument_does_not_change(self):
        numbers = {"s": 2, "m": 10, "c": 0}
        show_numbers(numbers)
        same(self, numbers, {"s": 2, "m": 10, "c": 0})


class ReadNumbersTest(unittest.TestCase):
    def test_examples(self):
        same(self, read_numbers("m:10 s:2"), {"m": 10, "s": 2})
        same(self, read_numbers(text="c:1"), {"c": 1})
        same(self, read_numbers("-"), {})
        same(self, read_numbers("a:3 ab:2 abcdefgh:4 b:1"), {"a": 3, "ab": 2, "abcdefgh": 4, "b": 1})

    def test_wrong_texts(self):
        texts = [
            "", " ", ":", ":1", "c", "c:", "c:0", "c:00", "c:01", "c:-1", "c:+1", "c:1.0", "c:1_0", "c: 1", "c :1",
            "--", "- ", " -", "-:1", "- c:1", "c:1 -", "c:1:", "c:1:2", "c::1", "c:1,m:2", "c:1, m:2", "c:1;",
            "s:2 m:10", "c:1 c:1", "c:1 c:2", "b:1 ab:1", "c:1  m:2", " c:1", "c:1 ", "c:1 m", "c:1 m:0",
            "C:1", "aB:1", "c1:1", "c_c:1", "abcdefghi:1", "c:a", "c:1a", "c:0x1", "c:1e3", "c:~", "~:1",
            "c:1\n", "\nc:1", "c:1\tm:1", "c:1\n m:1", "c:\u0661", "\u00e4:1", "c:\u00b2",
        ]
        for text in texts:
            with self.subTest(text):
                self.assertFalse(check_numbers(self, text))

    def test_number_of_digits(self):
        same(self, read_numbers("c:" + "9" * 60), {"c": SIXTY})
        same(self, read_numbers("c:1" + "0" * 59), {"c": 10 ** 59})
        for text in ["c:" + "9" * 61, "c:1" + "0" * 60, "c:0" + "9" * 59, "c:" + "1" * 3998, "c:" + "1" * 6000]:
            expect(self, InvalidText, text, read_numbers, text)

    def test_many_names(self):
        numbers = {letters(at): SIXTY - at for at in range(200)}
        same(self, read_numbers(show_numbers(numbers)), numbers)

    def test_all_short_texts(self):
        signs = ["a", "b", "0", "1", ":", " ", "-"]
        valid = 0
        for length in range(7):
            for row in itertools.product(signs, repeat=length):
                valid += check_numbers(self, "".join(row))
        self.assertLess(20, valid)

    def test_random_texts(self):
        rng = random.Random(51)
        valid = 0
        for _ in range(3000):
            names = rng.sample(["a", "b", "c", "m", "s", "ab", "longname"], rng.randint(0, 4))
            text = show_numbers({name: rng.choice([1, 9, 10, 99, 10 ** rng.randint(0, 59)]) for name in names})
            self.assertTrue(check_numbers(self, text))
            valid += check_numbers(self, changed(rng, text))
        self.assertLess(100, valid)
        self.assertLess(valid, 2900)

    def test_returned_dicts_are_new(self):
        for text in ["-", "c:1 m:2"]:
            found = read_numbers(text)
            wanted = dict(found)
            found["x"] = 1
            same(self, read_numbers(text), wanted)


class ShowCatalogueTest(unittest.TestCase):
    def test_examples(self):
        self.assertEqual(show_catalogue(COIN), "c 1, s 3 c c, m 6 s s")
        self.assertEqual(show_catalogue(catalogue=[("abcdefgh", 10 ** 12 - 1, [])]), "abcdefgh 999999999999")
        wanted = "d 1, n 6 s c d, c 1, l 10 m n n, s 3 c d c, m 6 s s"
        self.assertEqual(show_catalogue(MIXED), wanted)

    def test_argument_does_not_change(self):
        catalogue = copy.deepcopy(MIXED)
        show_catalogue(catalogue)
        self.assertEqual(catalogue, MIXED)


class ReadCatalogueTest(unittest.TestCase):
    def test_examples(self):
        self.assertEqual(read_catalogue("c 1, s 3 c c"), [("c", 1, []), ("s", 3, ["c", "c"])])
        self.assertEqual(read_catalogue(text="abcdefgh 7"), [("abcdefgh", 7, [])])
        self.assertEqual(read_catalogue("s 3 d c, c 1, d 2 c"), [("s", 3, ["d", "c"]), ("c", 1, []), ("d", 2, ["c"])])
        self.assertEqual(read_catalogue("a 2, b 2"), [("a", 2, []), ("b", 2, [])])

    def test_wrong_texts(self):
        texts = [
            "", " ", ",", ", ", "-", "c", "c ", "c 1,", "c 1, ", " c 1", "c 1 ", "c  1", "c 1,s 3", "c 1,  s 3",
            "c 1 , s 3", "c 1, , s 3", "c 1; s 3", "1", "1 c", "c:1", "c c", "c 0", "c 00", "c 01", "c -1", "c +1",
            "c 1.0", "c 1_0", "C 1", "aB 1", "c1 1", "abcdefghi 1", "c 1, c 1", "c 1, c 2", "c 1, s 3 c, c 2",
            "s 3 c", "c 1, s 3 x", "c 1, s 1 c", "c 2, s 1 c", "s 3 s", "c 1, s 3 c  c", "c 1, s 3 c ", "c 1, s c",
            "c 1, s 3 c,", "c 1, s 3 C", "c 1, s 3 2", "c 1, s 3 c 1", "c 1\n", "c\t1", "c 1,\ns 3", "c 1\n, s 3",
            "c \u0661", "\u00e4 1", "c \u00b2",
        ]
        for text in texts:
            with self.subTest(text):
                self.assertFalse(check_catalogue(self, text))

    def test_number_of_digits(self):
        self.assertEqual(read_catalogue("c " + "9" * 60), [("c", SIXTY, [])])
        for text in ["c " + "9" * 61, "c 1" + "0" * 60, "c 0" + "9" * 59, "c " + "1" * 3998, "c " + "1" * 6000]:
            expect(self, InvalidText, text, read_catalogue, text)

    def test_long_catalogues(self):
        catalogue = [("a", 1, [])]
        for at in range(300):
            parts = [catalogue[0][0]] * (at % 9) + [catalogue[-1][0]]
            catalogue.append((letters(at), 10 ** 59 + at, parts))
        text = show_catalogue(catalogue)
        self.assertEqual(read_catalogue(text), catalogue)
        wrong = text + ", a 1"
        expect(self, InvalidText, wrong, read_catalogue, wrong)

    def test_all_short_texts(self):
        signs = ["a", "b", "0", "1", "2", ",", " "]
        valid = 0
        for length in range(7):
            for row in itertools.product(signs, repeat=length):
                valid += check_catalogue(self, "".join(row))
        self.assertLess(50, valid)

    def test_random_texts(self):
        rng = random.Random(52)
        valid = 0
        for _ in range(3000):
            text = show_catalogue(random_catalogue(rng, rng.randint(1, 6)))
            self.assertTrue(check_catalogue(self, text))
            valid += check_catalogue(self, changed(rng, text))
        self.assertLess(100, valid)
        self.assertLess(valid, 2900)

    def test_returned_lists_are_new(self):
        text = "c 1, d 1, s 3 c c"
        found = read_catalogue(text)
        self.assertEqual(len({id(parts) for name, weight, parts in found}), 3)
        for name, weight, parts in found:
            parts.append("x")
        found.clear()
        self.assertEqual(read_catalogue(text), [("c", 1, []), ("d", 1, []), ("s", 3, ["c", "c"])])


class BackAgainTest(unittest.TestCase):
    def test_written_and_read_again(self):
        rng = random.Random(53)
        for _ in range(500):
            catalogue = random_catalogue(rng, rng.randint(1, 6))
            self.assertEqual(read_catalogue(show_catalogue(catalogue)), catalogue)
            stock = random_stock(rng, catalogue)
            wanted = {name: stock[name] for name in sorted(stock) if stock[name]}
            same(self, read_numbers(show_numbers(stock)), wanted)


if __name__ == "__main__":
    unittest.main()
