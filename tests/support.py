"""Wrong values, and checks that the test files share."""

import copy
import functools
import inspect
from fractions import Fraction

NOT_INTEGERS = [None, True, False, 0.0, 1.0, 2.5, 1j, Fraction(1), "", "1", b"1", (), (1,), [], [1], {}, {1: 1}, {1},
                object(), int, len, range(2)]

NOT_LEDGERS = [
    None, True, False, 0, 1, 1.5, "", "ab", b"", [], [(1, 2)], {}, {1: 2}, {(1, 2)}, object(), tuple, range(0),
    iter(()),
    (1, 2), (1,), (None,), ([1, 2],), ("ab",), (b"ab",), ({1: 2},), ((),), ((1,),), ((1, 2, 3),), (((1, 2),),),
    ((1, 0),), ((1, 2), (3, 0)), ((1, 2), (1, 3)), ((2, 1), (1, 1)), ((1, 1), (3, 1), (2, 1)), ((0, 1), (0, 1)),
    ((True, 1),), ((1, True),), ((False, 1),), ((0, False),), ((1.0, 1),), ((1, 1.0),), (("1", 1),), ((1, "1"),),
    ((1, None),), ((None, 1),), ((0, 1), (True, 1)), ((1, 1), [2, 1]), ((1, 1), 2),
]

NOT_CHANGES = [
    None, True, 0, 1, "", "ab", b"", (), ((1, 2),), {}, {1: 2}, {(1, 2)}, object(), list, iter([]),
    [1], [None], [[1, 2]], ["ab"], [b"ab"], [{1: 2}], [()], [(1,)], [(1, 2, 3)], [((1, 2),)], [(1, 2), [3, 4]],
    [(True, 1)], [(1, True)], [(1, False)], [(1.0, 1)], [(1, 1.0)], [("1", 1)], [(1, None)], [(1, 2), 3],
]

NOT_POLYNOMIALS = [
    None, True, False, 0, 1, 1.5, "", "ab", b"", b"ab", [], [1], {}, {1: 2}, {1}, object(), tuple, range(1, 3),
    (0,), (1, 0), (0, 0), (1, 2, 0), (True,), (False,), (1, True), (True, 1), (1.0,), (1, 2.0), (1.0, 2), ("1",),
    (None,), (1, None), ((1,),), ([1],), (b"a",), (Fraction(1),),
]

NOT_PLACES = [
    None, True, 0, 1, "", "ab", b"", b"ab", (), (1,), (1, 2), {}, {1: 2}, {1}, object(), list, range(2), iter([]),
    [True], [False], [1, True], [1.0], [1, 2.0], ["1"], [None], [(1,)], [[1]], [1, "2"], [Fraction(1)],
]


NOT_SUMS = [
    None, True, False, 0, 1, 1.5, "", "ab", b"", b"ab", (), [], [1], [1, 2], {}, {1: 2}, {1}, object(), tuple,
    range(1, 3), iter((1,)),
    (True,), (False,), (1, True), (True, 1), (1, False, 2), (1.0,), (1, 2.0), (1.0, 2), ("1",), (None,), (1, None),
    ((1,),), ([1],), (1, (2,)), (b"a",), (Fraction(1),), (1, 2, "3"),
]

NOT_KEYS = [
    None, True, False, 0, 1, 1.5, "", "ab", b"", b"ab", [], [1], [1, 2], {}, {1: 2}, {1}, object(), tuple, range(2),
    iter(()),
    (True,), (False,), (0, True), (-1, False), (1.0,), (1, 2.0), ("1",), (None,), (1, None), ((1,),), ([1],),
    (Fraction(1),), (1, 1), (2, 1), (1, 0), (0, -1), (0, 1, 1),
]

NOT_ROWS = [
    None, True, False, 0, 1, "", "ab", b"", b"ab", (), ((1,),), ((1, 2), (1, 2)), [], {}, {1: (1,)}, {(1,)}, object(),
    list, range(2), iter([(1,)]),
    [1], [None], ["a"], [b"a"], [[1]], [()], [(), ()], [(1,), ()], [(), (1,)], [(1,), (1, 2)], [(1, 2), (1,)],
    [(1,), (1,), (1, 2)], [(1,), (1, 2), (1,)], [(1,), [1]], [[1], (1,)], [(1,), 1], [(True,)], [(1,), (False,)],
    [(1,), (1.0,)], [(1, "2")], [((1,),)],
]


def others(values, lowest):
    """Return wrong values for an argument that is an integer from a lowest one on."""
    return values + [lowest - 1, lowest - 2, -10 ** 15]


def assert_error(case, error, function, *arguments, **named):
    """Check that a call raises just this error and leaves its arguments as they are."""
    with case.assertRaises(error) as caught:
        function(*arguments, **named)
    case.assertIs(type(caught.exception), error)


def call(function, values):
    """Call a function with its arguments by position; those behind a star are passed by name."""
    pairs = list(zip(inspect.signature(function).parameters.values(), values))
    plain = [value for parameter, value in pairs if parameter.kind != parameter.KEYWORD_ONLY]
    named = {parameter.name: value for parameter, value in pairs if parameter.kind == parameter.KEYWORD_ONLY}
    return function(*plain, **named)


def check_wrong(case, function, good, wrong):
    """Check the errors of a function: wrong is a list of (error, wrong values), one for each argument of good.

    Where an argument is wrong, all arguments behind it are wrong, too, so the
    error has to be that of the first one. It is so by position and by name.
    """
    names = list(inspect.signature(function).parameters)
    call(function, good)
    for at, (error, values) in enumerate(wrong):
        for value in values:
            with case.subTest(function=function.__name__, at=at, value=value):
                alone = list(good[:at]) + [value] + list(good[at + 1:])
                later = list(good[:at]) + [value] + [rest[1][0] for rest in wrong[at + 1:]]
                assert_error(case, error, call, function, alone)
                assert_error(case, error, call, function, later)
                assert_error(case, error, function, **dict(zip(names, alone)))


def check_named(case, function, names, arguments, expected):
    """Check a call by position and by names in any order, and that no argument changes."""
    before = copy.deepcopy(arguments)
    named = dict(zip(names, arguments))
    backwards = dict(reversed(list(named.items())))
    for result in (call(function, arguments), function(**named), function(**backwards)):
        case.assertEqual(result, expected)
        case.assertIs(type(result), type(expected))
    case.assertEqual(arguments, before)


def check_star(case, function, good):
    """Check that the arguments behind a star are not passed by position."""
    names = [p.name for p in inspect.signature(function).parameters.values() if p.kind == p.KEYWORD_ONLY]
    case.assertTrue(names)
    for many in range(len(names)):
        plain = good[:len(good) - many]
        named = dict(zip(names[len(names) - many:], good[len(good) - many:]))
        with case.assertRaises(TypeError):
            given = function(*plain, **named)
            next(given)


def as_list(function):
    """Return a function with the same name and arguments that returns the list of what a generator gives."""
    @functools.wraps(function)
    def inner(*arguments, **named):
        return list(function(*arguments, **named))
    return inner


def check_new_lists(case, function, arguments):
    """Check that each call returns a new list, and that changing it changes no later result."""
    first = function(*arguments)
    expected = list(first)
    first.append("more")
    second = function(*arguments)
    case.assertIsNot(first, second)
    case.assertEqual(second, expected)


def small_ledgers(keys=(-2, 0, 1, 3), amounts=(-1, 0, 2)):
    """Return all ledgers with such keys and amounts."""
    tables = [()]
    for key in keys:
        tables = [table + ((key, amount),) for table in tables for amount in amounts]
    return [tuple(pair for pair in table if pair[1] != 0) for table in tables]


def table_of(ledger):
    """Return a ledger as a dict."""
    return dict(ledger)


def ledger_from(table):
    """Return the ledger of a dict, by plain words of the document."""
    return tuple(sorted((key, amount) for key, amount in table.items() if amount != 0))


def plain_sums(ledger, number):
    """Return the sums of a ledger, by plain words of the document."""
    return tuple(sum(amount * key ** j for key, amount in ledger) for j in range(number))


def determinant_of(table):
    """Return the determinant of a table of numbers, by an elimination with fractions."""
    rows = [[Fraction(number) for number in row] for row in table]
    result = Fraction(1)
    for k in range(len(rows)):
        swap = next((i for i in range(k, len(rows)) if rows[i][k] != 0), None)
        if swap is None:
            return 0
        if swap != k:
            rows[k], rows[swap] = rows[swap], rows[k]
            result = -result
        result *= rows[k][k]
        for i in range(k + 1, len(rows)):
            factor = rows[i][k] / rows[k][k]
            rows[i] = [number - factor * top for number, top in zip(rows[i], rows[k])]
    return result


def solved(table, right):
    """Return one solution of linear equations as a list of fractions, None if there is none."""
    rows = [[Fraction(number) for number in row] + [Fraction(end)] for row, end in zip(table, right)]
    width = len(table[0]) if table else 0
    places = []
    for column in range(width):
        at = len(places)
        swap = next((i for i in range(at, len(rows)) if rows[i][column] != 0), None)
        if swap is None:
            continue
        rows[at], rows[swap] = rows[swap], rows[at]
        rows[at] = [number / rows[at][column] for number in rows[at]]
        for i in range(len(rows)):
            if i != at:
                factor = rows[i][column]
                rows[i] = [number - factor * top for number, top in zip(rows[i], rows[at])]
        places.append(column)
    if any(row[-1] != 0 for row in rows[len(places):]):
        return None
    result = [Fraction(0)] * width
    for row, column in zip(rows, places):
        result[column] = row[-1]
    return result


def plain_rule(sums):
    """Return a rule of the least length with the last coefficient 1, as fractions, by linear equations."""
    for length in range(len(sums) + 1):
        places = range(len(sums) - length)
        found = solved([sums[j:j + length] for j in places], [-sums[j + length] for j in places])
        if not places:
            found = [Fraction(0)] * length
        if found is not None:
            return found + [Fraction(1)]
    raise AssertionError(sums)
