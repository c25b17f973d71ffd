"""Wrong values, and checks that the test files share."""

import copy
import inspect
from fractions import Fraction

NOT_INTEGERS = [None, True, False, 0.0, 1.0, 2.5, 1j, Fraction(1), "", "1", b"1", (), (1,), [], [1], {}, {1: 1}, {1},
                object(), int, len, range(2)]

NOT_LEDGERS = [
    None, True, False, 0, 1, 1.5, "", "ab", b"", [], [(1, 2)], {}, {1: 2}, {(1, 2)}, object(), tuple, range(0),
    iter(()),
    (1, 2), (1,), (None,), ([1, 2],), ("ab",), (b"ab",), ({1: 2},), ((),), ((1,),), ((1, 2, 3),), (((1, 2),),),
    ((1, 0),), ((1, 2), (3, 0)), ((1, 2), (1, 3)), ((2, 1), (1, 1)), ((1, 1), (3, 1), (2, 1)), ((0, 1), (0, 1)),
    ((True, 1),), ((1, True),), ((False, 1),), ((0, False),), ((1.0, 1),), ((1, 1.0),), (("1", 1),), ((1, "1"),),
    ((1, None),), ((None, 1),), ((0, 1), (True, 1)), ((1, 1), [2, 1]), ((1, 1), 2),
]

NOT_CHANGES = [
    None, True, 0, 1, "", "ab", b"", (), ((1, 2),), {}, {1: 2}, {(1, 2)}, object(), list, iter([]),
    [1], [None], [[1, 2]], ["ab"], [b"ab"], [{1: 2}], [()], [(1,)], [(1, 2, 3)], [((1, 2),)], [(1, 2), [3, 4]],
    [(True, 1)], [(1, True)], [(1, False)], [(1.0, 1)], [(1, 1.0)], [("1", 1)], [(1, None)], [(1, 2), 3],
]

NOT_POLYNOMIALS = [
    None, True, False, 0, 1, 1.5, "", "ab", b"", b"ab", [], [1], {}, {1: 2}, {1}, object(), tuple, range(1, 3),
    (0,), (1, 0), (0, 0), (1, 2, 0), (True,), (False,), (1, True), (True, 1), (1.0,), (1, 2.0), (1.0, 2), ("1",),
    (None,), (1, None), ((1,),), ([1],), (b"a",), (Fraction(1),),
]

NOT_PLACES = [
    None, True, 0, 1, "", "ab", b"", b"ab", (), (1,), (1, 2), {}, {1: 2}, {1}, object(), list, range(2), iter([]),
    [True], [False], [1, True], [1.0], [1, 2.0], ["1"], [None], [(1,)], [[1]], [1, "2"], [Fraction(1)],
]


def others(values, lowest):
    """Return wrong values for an argument that is an integer from a lowest one on."""
    return values + [lowest - 1, lowest - 2, -10 ** 15]


def assert_error(case, error, function, *arguments, **named):
    """Check that a call raises just this error and leaves its arguments as they are."""
    with case.assertRaises(error) as caught:
        function(*arguments, **named)
    case.assertIs(type(caught.exception), error)


def check_wrong(case, function, good, wrong):
    """Check the errors of a function: wrong is a list of (error, wrong values), one for each argument of good.

    Where an argument is wrong, all arguments behind it are wrong, too, so the
    error has to be that of the first one. It is so by position and by name.
    """
    names = list(inspect.signature(function).parameters)
    function(*good)
    for at, (error, values) in enumerate(wrong):
        for value in values:
            with case.subTest(function=function.__name__, at=at, value=value):
                alone = list(good[:at]) + [value] + list(good[at + 1:])
                later = list(good[:at]) + [value] + [rest[1][0] for rest in wrong[at + 1:]]
                assert_error(case, error, function, *alone)
                assert_error(case, error, function, *later)
                assert_error(case, error, function, **dict(zip(names, alone)))


def check_named(case, function, names, arguments, expected):
    """Check a call by position and by names in any order, and that no argument changes."""
    before = copy.deepcopy(arguments)
    named = dict(zip(names, arguments))
    backwards = dict(reversed(list(named.items())))
    for result in (function(*arguments), function(**named), function(**backwards)):
        case.assertEqual(result, expected)
        case.assertIs(type(result), type(expected))
    case.assertEqual(arguments, before)


def small_ledgers(keys=(-2, 0, 1, 3), amounts=(-1, 0, 2)):
    """Return all ledgers with such keys and amounts."""
    tables = [()]
    for key in keys:
        tables = [table + ((key, amount),) for table in tables for amount in amounts]
    return [tuple(pair for pair in table if pair[1] != 0) for table in tables]


def table_of(ledger):
    """Return a ledger as a dict."""
    return dict(ledger)


def ledger_from(table):
    """Return the ledger of a dict, by plain words of the document."""
    return tuple(sorted((key, amount) for key, amount in table.items() if amount != 0))
