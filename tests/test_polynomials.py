"""Points 1 to 3 and 8 to 11: polynomials."""

import itertools
import math
import time
import unittest
from fractions import Fraction

from changesums.errors import InvalidPlace, InvalidPlaces, InvalidPolynomial
from changesums.polynomials import (
    common, count_roots, from_roots, integer_roots, is_polynomial, primitive, root_cells, square_free, times, value_at)
from support import NOT_INTEGERS, NOT_PLACES, NOT_POLYNOMIALS, check_named, check_wrong

TOP = 10 ** 15 - 1
P = (18, -3, -4, 1)
SMALL = [row for length in range(5) for row in itertools.product(range(-2, 3), repeat=length) if not row or row[-1]]
GREAT = tuple((-1) ** k * (10 ** 900 - 1 - k) for k in range(25))
NO_ROOTS = NOT_POLYNOMIALS + [()]


def product_of(*polynomials):
    """Return the product of polynomials, by plain words."""
    result = [1]
    for polynomial in polynomials:
        longer = [0] * (len(result) + len(polynomial) - 1)
        for (i, one), (j, other) in itertools.product(enumerate(result), enumerate(polynomial)):
            longer[i + j] += one * other
        result = longer
    return tuple(result)


def rest_of(one, other):
    """Return the remainder of a division with fractions."""
    rest = [Fraction(number) for number in one]
    while len(rest) >= len(other):
        factor = rest[-1] / other[-1]
        shift = len(rest) - len(other)
        rest = [number - factor * (other[k - shift] if k >= shift else 0) for k, number in enumerate(rest)]
        while rest and rest[-1] == 0:
            rest.pop()
    return rest


def divides(one, other):
    """Return whether a polynomial other than () divides another one."""
    return not rest_of(other, one)


def plain_primitive(polynomial):
    """Return the primitive polynomial, by plain words."""
    if not polynomial:
        return ()
    shared = math.gcd(*polynomial) * (1 if polynomial[-1] > 0 else -1)
    return tuple(number // shared for number in polynomial)


class WhatAPolynomialIs(unittest.TestCase):
    """Point 8, and the first three functions of point 9."""

    def test_polynomials(self):
        for value in [(), (1,), (-1,), (0, 1), (0, 0, -7), P, GREAT] + SMALL:
            self.assertIs(is_polynomial(value), True)

    def test_no_polynomials(self):
        for value in NOT_POLYNOMIALS:
            with self.subTest(value=value):
                self.assertIs(is_polynomial(value), False)

    def test_value_at(self):
        for polynomial, place, expected in [
            ((), 5, 0), ((7,), 5, 7), ((7,), 0, 7), ((1, 2, 3), 10, 321), ((1, 2, 3), -1, 2), ((0, 1), -4, -4),
            ((5, 0, 0, -2), 2, -11), (P, 3, 0), (P, -2, 0), (P, 0, 18),
        ]:
            check_named(self, value_at, ["polynomial", "place"], [polynomial, place], expected)
        self.assertEqual(value_at(GREAT, -TOP), sum(number * (-TOP) ** k for k, number in enumerate(GREAT)))

    def test_times(self):
        for one, other, expected in [
            ((), (), ()), ((), P, ()), (P, (), ()), ((1,), P, P), (P, (-2,), (-36, 6, 8, -2)),
            ((1, 1), (-1, 1), (-1, 0, 1)), ((0, 1), (0, 0, -3), (0, 0, 0, -3)), ((1, 2), (3, 4, 5), (3, 10, 13, 10)),
        ]:
            check_named(self, times, ["one", "other"], [one, other], expected)
        self.assertEqual(times(GREAT, GREAT), product_of(GREAT, GREAT))

    def test_primitive(self):
        for polynomial, expected in [
            ((), ()), ((1,), (1,)), ((-1,), (1,)), ((6,), (1,)), ((-6,), (1,)), ((4, -6), (-2, 3)), ((4, 6), (2, 3)),
            ((0, 0, -5), (0, 0, 1)), ((2, 0, -4), (-1, 0, 2)), (P, P), ((-1, 2, -3), (1, -2, 3)), ((3, 2), (3, 2)),
        ]:
            check_named(self, primitive, ["polynomial"], [polynomial], expected)
        for polynomial in SMALL:
            self.assertEqual(primitive(polynomial), plain_primitive(polynomial))
        self.assertEqual(primitive(tuple(12 * number for number in GREAT)), plain_primitive(GREAT))

    def test_errors(self):
        check_wrong(self, value_at, [P, 0], [(InvalidPolynomial, NOT_POLYNOMIALS), (InvalidPlace, NOT_INTEGERS)])
        check_wrong(self, primitive, [P], [(InvalidPolynomial, NOT_POLYNOMIALS)])
        for function in (times, common):
            check_wrong(self, function, [(), ()], [
                (InvalidPolynomial, NOT_POLYNOMIALS), (InvalidPolynomial, NOT_POLYNOMIALS)])


class Divisors(unittest.TestCase):
    """Point 9: common and square_free."""

    def test_common(self):
        for one, other, expected in [
            ((), (), ()), ((), (-4, -6), (2, 3)), ((-4, -6), (), (2, 3)), ((), (5,), (1,)), ((4,), (6,), (1,)),
            ((4,), (2, 4), (1,)), ((2, 4), (6,), (1,)), (P, (15, -8, 1), (-3, 1)), (P, P, P),
            ((-2, 4), (3, -6), (-1, 2)),
            ((-1, 0, 1), (1, 1), (1, 1)), ((-1, 0, 1), (1, 0, 1), (1,)), ((0, 0, 2), (0, 0, 0, 3), (0, 0, 1)),
            ((2, 3), (4, 12, 9), (2, 3)), ((1, 2), (1, 3), (1,)),
        ]:
            check_named(self, common, ["one", "other"], [one, other], expected)

    def test_common_of_small_ones(self):
        some = [row for row in SMALL if row and abs(row[-1]) == 1][::3]
        for one, other in itertools.product(some, SMALL[::7]):
            found = common(one, other)
            self.assertEqual(found, plain_primitive(found))
            self.assertEqual(found, common(other, one))
            self.assertTrue(divides(found, one) and divides(found, other))
            if other:
                a, b = list(one), list(other)
                while b:
                    a, b = b, rest_of(a, b)
                self.assertEqual(len(found), len(a))

    def test_square_free(self):
        for polynomial, expected in [
            ((5,), (1,)), ((-5,), (1,)), ((2, -4), (-1, 2)), (P, (-6, -1, 1)), ((0, 0, 0, -7), (0, 1)),
            ((1, 0, 2, 0, 1), (1, 0, 1)), ((4, 0, -4, 0, 1), (-2, 0, 1)), ((-1, 0, 1), (-1, 0, 1)),
            (product_of((1, 2), (1, 2), (1, 2), (1, 0, 1), (1, 0, 1), (-3,)), (1, 2, 1, 2)),
        ]:
            check_named(self, square_free, ["polynomial"], [polynomial], expected)
        shape = product_of((-5, 0, 3), (1, 1, 1))
        self.assertEqual(square_free(product_of(shape, shape, (0, 1), (0, 1))), product_of(shape, (0, 1)))

    def test_errors(self):
        check_wrong(self, square_free, [P], [(InvalidPolynomial, NO_ROOTS)])


class Roots(unittest.TestCase):
    """Point 10."""

    # Factors with no common root, and their real roots as floats that are near enough to tell the cells.
    FACTORS = [((0, 1), [0]), ((-3, 1), [3]), ((2, 1), [-2]), ((-2, 0, 1), [-2 ** .5, 2 ** .5]), ((1, 0, 1), []),
               ((-1, 2), [.5]), ((-1, -1, 1), [(1 - 5 ** .5) / 2, (1 + 5 ** .5) / 2]), ((-4, 3), [4 / 3])]

    def products(self):
        """Yield polynomials with their different real roots."""
        for row in itertools.product((0, 1, 2), (0, 1), (0, 1, 3), (0, 1, 2), (0, 1), (0, 1), (0, 2), (0, 1)):
            factors = [factor for (factor, _), many in zip(self.FACTORS, row) for _ in range(many)]
            roots = [root for (_, found), many in zip(self.FACTORS, row) if many for root in found]
            sign = 1 if sum(row) == 0 else (-1) ** sum(row) * (1 + row[0])
            yield product_of(*factors, (sign,)), sorted(roots), row

    def test_all_products(self):
        for polynomial, roots, row in self.products():
            cells = {}
            for root in roots:
                cells[math.ceil(root)] = cells.get(math.ceil(root), 0) + 1
            self.assertEqual(root_cells(polynomial), sorted(cells.items()))
            whole = sorted((root, many) for root, many in zip((0, 3, -2), row) if many)
            self.assertEqual(integer_roots(polynomial), whole)
            for low, high in ((-3, 4), (-2, 3), (-3, -2), (0, 0), (-1, 0), (0, 2), (2, 3), (3, 5), (2, -2), (-5, -3)):
                many = len([root for root in roots if low < root <= high])
                self.assertEqual(count_roots(polynomial, low, high), many)

    def test_count_roots(self):
        names = ["polynomial", "low", "high"]
        for polynomial, low, high, expected in [
            ((5,), -9, 9, 0), ((-2, 0, 1), 0, 2, 1), ((-2, 0, 1), -2, 2, 2), ((-2, 0, 1), 2, -2, 0), ((0, 1), 0, 0, 0),
            (P, -2, 3, 1), (P, -3, 3, 2), (P, -3, -2, 1), (P, 3, 9, 0), (P, 3, -3, 0), (P, -TOP, TOP, 2),
            ((0, 0, -1), -1, 0, 1), ((0, 0, -1), 0, 1, 0), ((6, -5, 1), 2, 3, 1), ((6, -5, 1), 1, 2, 1),
            ((-1, 0, 4), 0, 1, 1), ((-1, 0, 4), -1, 0, 1), ((-3, 16, -20), 0, 1, 2),
        ]:
            check_named(self, count_roots, names, [polynomial, low, high], expected)

    def test_root_cells(self):
        for polynomial, expected in [
            ((5,), []), ((-5,), []), ((0, -3), [(0, 1)]), ((-2, 0, 1), [(-1, 1), (2, 1)]), ((1, 0, 1), []),
            (P, [(-2, 1), (3, 1)]), ((-3, 16, -20), [(1, 2)]),
            (product_of((-3, 16, -20), (-1, 1), (0, 1)), [(0, 1), (1, 3)]),
            ((3, 16, 20), [(0, 2)]), ((-7, 2), [(4, 1)]), ((7, 2), [(-3, 1)]), ((-2 * TOP, 2), [(TOP, 1)]),
            ((-10 ** 20, 0, 1), [(-10 ** 10, 1), (10 ** 10, 1)]), ((10 ** 45, 0, 0, 1), [(-10 ** 15, 1)]),
            ((10 ** 59, 1), [(-10 ** 59, 1)]), ((-1, 10 ** 59), [(1, 1)]), ((1, 10 ** 59), [(0, 1)]),
            (product_of((-10 ** 9 - 1, 10 ** 8), (-10 ** 9 - 2, 10 ** 8)), [(11, 2)]),
            (product_of((-10 ** 9, 10 ** 8), (-10 ** 9 - 1, 10 ** 8)), [(10, 1), (11, 1)]),
        ]:
            check_named(self, root_cells, ["polynomial"], [polynomial], expected)

    def test_integer_roots(self):
        for polynomial, expected in [
            ((5,), []), ((-5,), []), ((0, -3), [(0, 1)]), ((0, 0, 0, 8), [(0, 3)]), ((-2, 0, 1), []), ((-1, 2), []),
            (P, [(-2, 1), (3, 2)]), ((6, -2), [(3, 1)]), ((-6, 11, -6, 1), [(1, 1), (2, 1), (3, 1)]), ((1, 0, 1), []),
            (product_of((50, 1), (-19, 1)), [(-50, 1), (19, 1)]), ((-10 ** 20, 0, 1), [(-10 ** 10, 1), (10 ** 10, 1)]),
            (product_of((-7, 1), (-7, 1), (7, 1), (1, 7)), [(-7, 1), (7, 2)]), ((TOP, 1), [(-TOP, 1)]),
            (product_of((4, 0, -4, 0, 1), (9, 0, -6, 0, 1), (36, 0, -12, 0, 1)), []),
            (product_of(*[(-101 * k, 1) for k in range(-3, 4)]), [(101 * k, 1) for k in range(-3, 4)]),
            (product_of((-50, 1), (51, 1), (-10201, 1), (10200, 1)), [(-10200, 1), (-51, 1), (50, 1), (10201, 1)]),
        ]:
            check_named(self, integer_roots, ["polynomial"], [polynomial], expected)

    def test_every_integer_root_is_found(self):
        for root in list(range(-220, 221)) + [TOP, -TOP, 10 ** 14, -101 ** 7, 101 ** 7 // 2]:
            for factor in ((1,), (-3, 2), (1, 0, 5)):
                self.assertEqual(integer_roots(product_of((-root, 1), factor)), [(root, 1)])

    def test_new_lists(self):
        for function, polynomial in ((root_cells, P), (integer_roots, P), (root_cells, (1,)), (integer_roots, (1,))):
            first = function(polynomial)
            expected = list(first)
            first.append((99, 1))
            second = function(polynomial)
            self.assertIsNot(first, second)
            self.assertEqual(second, expected)

    def test_errors(self):
        check_wrong(self, count_roots, [P, 3, -3], [
            (InvalidPolynomial, NO_ROOTS), (InvalidPlace, NOT_INTEGERS), (InvalidPlace, NOT_INTEGERS)])
        for function in (root_cells, integer_roots):
            check_wrong(self, function, [P], [(InvalidPolynomial, NO_ROOTS)])


class ManyIntegerRoots(unittest.TestCase):
    """Point 10: integer_roots of many, equal, near and great roots, one beside the other."""

    def check_roots(self, roots, factor=(1,)):
        """Check the roots of a polynomial that has these integer roots and those of a factor that has none."""
        expected = sorted((root, roots.count(root)) for root in set(roots))
        self.assertEqual(integer_roots(product_of(from_roots(roots), factor)), expected)

    def test_24_roots_of_15_digits(self):
        roots = [(-1) ** i * (10 ** 14 * 9 + 7919 * i * i) for i in range(24)]
        self.assertEqual(integer_roots(from_roots(roots)), [(root, 1) for root in sorted(roots)])

    def test_24_equal_roots_of_15_digits(self):
        for root in (TOP, -TOP, 10 ** 14 + 7):
            self.assertEqual(integer_roots(from_roots([root] * 24)), [(root, 24)])

    def test_neighbours_of_54_digits(self):
        for root in (7 * 10 ** 53, -10 ** 54 + 1, 10 ** 53 + 100, 101 ** 26):
            self.assertEqual(integer_roots(from_roots([root, root + 1])), [(root, 1), (root + 1, 1)])
            self.assertEqual(integer_roots(from_roots([root + 1, root, root + 1])), [(root, 1), (root + 1, 2)])

    def test_many_calls(self):
        # Each polynomial is another one, so that no kept answer can help.
        rows = [[(-1) ** i * (10 ** 14 * 9 - step * i * i) for i in range(24)] for step in range(1, 300)]
        polynomials = [from_roots(roots) for roots in rows]
        start = time.process_time()
        found = [integer_roots(polynomial) for polynomial in polynomials]
        # This takes some four tenths of a second; ten times as long would be too long.
        self.assertLess(time.process_time() - start, 4)
        self.assertEqual(found, [[(root, 1) for root in sorted(roots)] for roots in rows])

    def test_roots_with_the_same_last_digits(self):
        for base in (2, 10, 97, 101, 103):
            for exponent in (1, 2, 5, 7):
                step = base ** exponent
                self.check_roots([step * k - 5 for k in range(-3, 4)] + [TOP, -TOP])
                self.check_roots([4, 4 + step, 4 + step, 4 - step, 4 + step * step])
        self.check_roots([k * 101 ** 7 for k in range(-9, 9)])
        self.check_roots([101 ** k for k in range(12)] + [0, 0])

    def test_roots_beside_others_that_are_no_integers(self):
        for factor in ((-2, 0, 1), (1, 0, 1), (-6, 0, 1), (-20, 0, 1), (3, 2), (-1, 101), (101, 0, 0, 1), (-5, 0, 0, 2),
                       (-101, 0, 101 ** 2), (1, 1, 1, 1, 1)):
            twice = product_of(factor, factor)
            for roots in ([], [0], [TOP], [3, 3, -4], [45, 45 + 101, 56], [5, 5, 5, 10 ** 14, -96], [101, 0, -101]):
                self.check_roots(roots, factor)
                self.check_roots(roots, product_of(twice, twice, (-7,)))
                self.check_roots(roots, product_of(twice, (10 ** 300,)))

    def test_roots_near_others_modulo_powers(self):
        # The fraction and the irrational roots agree with an integer in many last digits.
        for base in (2, 3, 97, 101, 103):
            for exponent in (1, 4, 9):
                step = base ** exponent
                self.check_roots([6, 6, -9], (6 + step, -1 - step))
                self.check_roots([6, 6, 8], (36 + step, -12, 1))
                self.check_roots([6], product_of((36 + step, -12, 1), (36 + step * base, -12, 1)))
                self.check_roots([6, TOP], product_of((6 + step, -1 - step), (6 + 7 * step, -1 - step)))

    def test_coefficients_of_many_digits(self):
        wide = tuple(10 ** 700 + 10 ** (30 * k) * (-1) ** k for k in range(13))
        self.check_roots([], wide)
        self.check_roots([TOP, 1 - TOP, 0], wide)
        self.check_roots([10 ** 300, 10 ** 300 + 101], wide)

    def test_degrees_above_the_limit(self):
        self.check_roots([5] * 101)
        self.check_roots([5] * 101 + [106, -7])
        self.check_roots([5] * 60 + [106] * 42)
        self.check_roots(list(range(-60, 61)))


class FromRoots(unittest.TestCase):
    """Point 11."""

    def test_from_roots(self):
        for roots, expected in [
            ([], (1,)), ([0], (0, 1)), ([0, 0], (0, 0, 1)), ([3, -2, 3], P), ([5], (-5, 1)), ([1, -1], (-1, 0, 1)),
        ]:
            check_named(self, from_roots, ["roots"], [roots], expected)

    def test_integer_roots_give_them_back(self):
        for roots in ([1, 2, 3, 4], [-5] * 5, [7, -7, 0, 7, 101], list(range(-12, 12)), [TOP] * 24):
            expected = sorted((root, roots.count(root)) for root in set(roots))
            self.assertEqual(integer_roots(from_roots(roots)), expected)
            self.assertEqual(root_cells(from_roots(roots)), [(root, 1) for root, _ in expected])

    def test_forgets_its_argument(self):
        roots = [1, 2]
        made = from_roots(roots)
        roots.append(3)
        self.assertEqual(made, (2, -3, 1))

    def test_errors(self):
        check_wrong(self, from_roots, [[]], [(InvalidPlaces, NOT_PLACES)])


class Limits(unittest.TestCase):
    """Point 2: arguments at the limits are answered, also what the package returned before."""

    # Twelve roots of five digits give coefficients of at most 60 digits.
    ROOTS = [(-1) ** k * (99999 - 7 * k * k) for k in range(12)]
    WIDE = tuple((-1) ** (k * k // 3) * (10 ** 60 - 1 - 10 ** (4 * k)) for k in range(13))

    def test_degree_twelve(self):
        polynomial = from_roots(self.ROOTS)
        self.assertEqual(integer_roots(polynomial), [(root, 1) for root in sorted(self.ROOTS)])
        self.assertEqual(root_cells(polynomial), [(root, 1) for root in sorted(self.ROOTS)])
        self.assertEqual(square_free(polynomial), polynomial)
        self.assertEqual(count_roots(polynomial, -TOP, TOP), 12)
        self.assertEqual(count_roots(polynomial, min(self.ROOTS), max(self.ROOTS)), 11)
        self.assertEqual(common(polynomial, from_roots(self.ROOTS[::2])), from_roots(self.ROOTS[::2]))

    def test_wide_coefficients(self):
        cells = root_cells(self.WIDE)
        self.assertEqual(sum(many for _, many in cells), count_roots(self.WIDE, -TOP, TOP))
        for k, many in cells:
            self.assertEqual(count_roots(self.WIDE, k - 1, k), many)
        self.assertEqual(common(self.WIDE, from_roots(self.ROOTS)), (1,))
        self.assertEqual(square_free(self.WIDE), plain_primitive(self.WIDE))
        self.assertEqual(integer_roots(self.WIDE), [])

    def test_close_roots(self):
        # x ** 12 - 2 * (10 ** 29 * x - 1) ** 2 has two roots above 0 that are very close.
        close = (-2, 4 * 10 ** 29, -2 * 10 ** 58) + (0,) * 9 + (1,)
        self.assertEqual(sum(many for _, many in root_cells(close)), 4)
        self.assertEqual(dict(root_cells(close))[1], 2)

    def test_what_was_returned_may_be_passed_back(self):
        roots = [(-1) ** k * (TOP - 10 ** 12 * k * k) for k in range(24)]
        polynomial = from_roots(roots)
        ascending = [(root, 1) for root in sorted(roots)]
        self.assertEqual(integer_roots(polynomial), ascending)
        self.assertEqual(root_cells(polynomial), ascending)
        self.assertEqual(square_free(times(polynomial, polynomial)), polynomial)
        self.assertEqual(integer_roots(times(polynomial, polynomial)), [(root, 2) for root in sorted(roots)])


if __name__ == "__main__":
    unittest.main()
