"""Catalogues and checks that several test files use."""

COIN = [("c", 1, []), ("s", 3, ["c", "c"]), ("m", 6, ["s", "s"])]

# l, then m and n of equal weight, then s, then the atoms c and d of equal weight.
MIXED = [
    ("d", 1, []),
    ("n", 6, ["s", "c", "d"]),
    ("c", 1, []),
    ("l", 10, ["m", "n", "n"]),
    ("s", 3, ["c", "d", "c"]),
    ("m", 6, ["s", "s"]),
]


def chain(size, many):
    """A catalogue and its names from the atom on: each kind has the one before as parts."""
    names = [chr(ord("a") + at // 5) + chr(ord("a") + at % 5) for at in range(size)]
    catalogue = [(names[0], 1, [])]
    for at in range(1, size):
        catalogue.append((names[at], at + 1, [names[at - 1]] * many))
    return catalogue, names


# Each entry: what is wrong, the catalogue, the index that is told.
BAD_CATALOGUES = [
    ("no entry", [], 0),
    ("empty name", [("a", 1, []), ("", 1, [])], 1),
    ("long name", [("abcdefghi", 1, [])], 0),
    ("capital letter", [("a", 1, []), ("b", 1, []), ("aB", 1, [])], 2),
    ("digit", [("a1", 1, [])], 0),
    ("space", [("a b", 1, [])], 0),
    ("line feed", [("a\n", 1, [])], 0),
    ("underscore", [("a_b", 1, [])], 0),
    ("letter beyond ASCII", [("\u00e4", 1, [])], 0),
    ("no string", [("a", 1, []), (7, 1, [])], 1),
    ("name twice", [("a", 1, []), ("b", 2, ["a"]), ("a", 1, [])], 2),
    ("name twice with another weight", [("a", 1, []), ("a", 2, [])], 1),
    ("weight 0", [("a", 1, []), ("b", 0, [])], 1),
    ("negative weight", [("a", -1, [])], 0),
    ("unknown part", [("a", 1, []), ("b", 2, ["a", "x"])], 1),
    ("itself as a part", [("a", 1, []), ("b", 2, ["b"])], 1),
    ("part of equal weight", [("a", 2, []), ("b", 2, ["a"])], 1),
    ("heavier part", [("a", 1, ["b"]), ("b", 2, [])], 0),
    ("heavier last part", [("a", 1, []), ("b", 2, ["a", "a", "c"]), ("c", 3, [])], 1),
    ("first entry gives the weight", [("a", 5, []), ("b", 3, ["a"]), ("a", 1, [])], 1),
    ("first entry gives a lower weight", [("a", 1, []), ("b", 3, ["a"]), ("a", 5, [])], 2),
    ("invalid entry is a part before", [("b", 3, ["A"]), ("A", 1, [])], 1),
    ("weight of a part below 1", [("b", 3, ["a"]), ("a", 0, [])], 1),
    ("the first of several", [("a", 1, []), ("b", 0, []), ("C", 1, []), ("a", 1, [])], 1),
]


def expect(case, error, value, call, *args, **named):
    """Check that the call raises this very error with this value."""
    with case.assertRaises(error) as caught:
        call(*args, **named)
    case.assertIs(type(caught.exception), error)
    case.assertEqual(caught.exception.value, value)
    case.assertIs(type(caught.exception.value), type(value))


def expect_catalogue_check(case, call):
    """Check that call(catalogue) tells the first invalid entry of each bad catalogue."""
    from splitstock.errors import InvalidCatalogue

    for what, catalogue, index in BAD_CATALOGUES:
        with case.subTest(what):
            expect(case, InvalidCatalogue, index, call, catalogue)


def same(case, found, wanted):
    """Check that two dicts of numbers are equal in their order, too."""
    case.assertIs(type(found), dict)
    case.assertEqual(list(found.items()), list(wanted.items()))
