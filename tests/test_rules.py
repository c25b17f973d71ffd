"""Points 1 to 3, 19 and 20: rules of sums."""

import itertools
import math
import unittest
from fractions import Fraction

from changesums.errors import InvalidKeys, InvalidNumber, InvalidPolynomial, InvalidSums
from changesums.polynomials import from_roots, is_polynomial, primitive, times
from changesums.rules import amounts_for, determinant, is_rule, rule_length, rule_of
from changesums.sums import sums_of
from support import (
    NOT_INTEGERS, NOT_KEYS, NOT_POLYNOMIALS, NOT_SUMS, assert_error, check_named, check_new_lists, check_wrong,
    determinant_of, others, plain_rule, plain_sums, small_ledgers, solved)

TOP = 10 ** 15 - 1
A = ((-1, 3), (5, 3))
LEDGERS = small_ledgers()
TWELVE = tuple((-TOP + 10 ** 13 * k * k, (-1) ** k * (TOP - k)) for k in range(12))
# 24 sums of 400 digits that no ledger has.
WIDE = tuple((-1) ** (j // 3) * (10 ** 400 - 1 - 10 ** (15 * j)) // (j * j + 1) for j in range(24))
SMALL_SUMS = [row for length in (1, 2, 3, 4, 5) for row in itertools.product((-1, 0, 1, 2), repeat=length)]
POLYNOMIALS = [row for length in range(5) for row in itertools.product((-1, 0, 1, 2), repeat=length)
               if not row or row[-1] != 0]


def plain_is_rule(sums, polynomial):
    """Return whether a polynomial is a rule, by plain words of the document."""
    length = len(polynomial) - 1
    if not 0 <= length <= len(sums):
        return False
    return all(sum(polynomial[i] * sums[j + i] for i in range(length + 1)) == 0 for j in range(len(sums) - length))


def plain_rule_of(sums):
    """Return the least length of a rule, and the only primitive one or None, by linear equations."""
    rule = plain_rule(sums)
    length = len(rule) - 1
    if 2 * length > len(sums):
        return length, None
    shared = math.lcm(*[number.denominator for number in rule])
    return length, primitive(tuple(int(number * shared) for number in rule))


class Rules(unittest.TestCase):
    """Point 19: is_rule, rule_length and rule_of."""

    def test_is_rule(self):
        for sums, polynomial, expected in [
            ((6, 12, 78, 372), (-5, -4, 1), True), ((6, 12, 78, 372), (5, 4, -1), True),
            ((6, 12, 78, 372), (-5, -4, 2), False), ((6, 12, 78, 373), (-5, -4, 1), False),
            ((6, 12, 78, 372), (), False), ((0, 0), (), False), ((0, 0), (7,), True), ((0, 1), (7,), False),
            # Every polynomial whose degree is the number of the sums is a rule, none of a higher degree is one.
            ((5,), (3, 1), True), ((5,), (0, 1), True), ((5,), (0, 0, 1), False), ((0,), (0, 0, 1), False),
            ((1, 2), (9, 9, 9), True), ((1, 2), (9, 9, 9, 9), False), ((1, 2), (-2, 1), True), ((1, 2), (2, 1), False),
            ((1, 0, 0), (0, 1), True), ((0, 0, 1), (0, 0, 1), False), ((0, 0, 1), (0, 0, 0, 1), True),
        ]:
            check_named(self, is_rule, ["sums", "polynomial"], [sums, polynomial], expected)

    def test_is_rule_of_all_small_ones(self):
        for sums in SMALL_SUMS[::3]:
            for polynomial in POLYNOMIALS:
                self.assertIs(is_rule(sums, polynomial), plain_is_rule(sums, polynomial))

    def test_lengths_and_rules(self):
        for sums, length, rule in [
            ((6, 12, 78, 372), 2, (-5, -4, 1)), ((1, 2, 4, 9), 3, None), ((0,), 0, (1,)), ((0, 0, 0), 0, (1,)),
            ((5,), 1, None), ((-5, 0), 1, (0, 1)), ((0, 5), 2, None), ((0, 0, 1), 3, None), ((0, 0, 1, 0), 3, None),
            ((0, 0, 0, 0, 0, 2), 6, None), ((2, 4), 1, (-2, 1)), ((4, 2), 1, (-1, 2)), ((4, -6), 1, (3, 2)),
            ((0, 1, 0, 0), 2, (0, 0, 1)), ((0, 1, 2, 3), 2, (1, -2, 1)), ((1, 1, 2, 4), 2, (0, -2, 1)),
            ((0, 0, 1, 0, 0, 1), 3, (-1, 0, 0, 1)), ((0, 0, 1, 0, 0, 2), 3, (-2, 0, 0, 1)),
            ((2, 0, 4, 0), 2, (-2, 0, 1)), ((0, 0, 3, 1, 0, 0), 3, (-1, 3, -9, 27)), ((1, 0, 0, 0, 0), 1, (0, 1)),
            ((1, 1, 1, 1, 2), 4, None), ((1, 1, 1, 1, 1, 1, 2), 6, None), ((1, 0, 0, 1), 3, None),
        ]:
            check_named(self, rule_length, ["sums"], [sums], length)
            check_named(self, rule_of, ["sums"], [sums], rule)

    def test_all_small_sums(self):
        for sums in SMALL_SUMS:
            length, rule = plain_rule_of(sums)
            self.assertEqual(rule_length(sums), length)
            self.assertEqual(rule_of(sums), rule)

    def test_sums_with_gaps(self):
        # Zeros ahead and between make the rules longer by several at once.
        for row in itertools.product((0, 0, 1, -3), (0, 2), (0, 0, 5), (0, 1), (0, 0, 7), (0, 1), (0, -1), (0, 4)):
            for sums in (row, (0, 0) + row, row + (0, 0, 0, 0)):
                length, rule = plain_rule_of(sums)
                self.assertEqual(rule_length(sums), length)
                self.assertEqual(rule_of(sums), rule)

    def test_rules_of_ledgers(self):
        for ledger in LEDGERS:
            many = len(ledger)
            for number in range(1, 2 * many + 3):
                sums = plain_sums(ledger, number)
                self.assertLessEqual(rule_length(sums), many)
                if 2 * many <= number:
                    self.assertEqual(rule_length(sums), many)
                    self.assertEqual(rule_of(sums), from_roots([key for key, _ in ledger]))

    def test_errors(self):
        check_wrong(self, is_rule, [(1, 2), (1, 2)], [(InvalidSums, NOT_SUMS), (InvalidPolynomial, NOT_POLYNOMIALS)])
        for function in (rule_length, rule_of):
            check_wrong(self, function, [(1, 2)], [(InvalidSums, NOT_SUMS)])


class WideRules(unittest.TestCase):
    """Points 2 and 19: rules of sums with many digits."""

    def check_rule(self, sums):
        """Check the length and the rule by the equations that they have to satisfy."""
        length, rule = rule_length(sums), rule_of(sums)
        self.assertEqual((length, rule), plain_rule_of(sums))
        if rule is not None:
            self.assertTrue(is_polynomial(rule))
            self.assertEqual(primitive(rule), rule)
            self.assertTrue(plain_is_rule(sums, rule))

    def test_twelve_great_keys(self):
        for many in range(13):
            rule = from_roots([key for key, _ in TWELVE[:many]])
            for number in (24, 2 * many):
                if number > 0:
                    self.assertEqual(rule_of(sums_of(TWELVE[:many], number)), rule)
                    self.assertEqual(rule_length(sums_of(TWELVE[:many], number)), many)
        self.assertIsNone(rule_of(sums_of(TWELVE, 23)))
        self.assertEqual(rule_length(sums_of(TWELVE, 23)), 12)

    def test_wide_sums_without_a_ledger(self):
        # The determinant is not 0, so there is just one rule of length 12, and its coefficients are very long.
        self.assertNotEqual(determinant(WIDE, 12), 0)
        self.assertEqual(rule_length(WIDE), 12)
        rule = rule_of(WIDE)
        self.assertEqual(len(rule), 13)
        self.assertTrue(plain_is_rule(WIDE, rule))
        self.assertEqual(primitive(rule), rule)
        self.assertIsNone(rule_of(WIDE[:23]))
        for sums in (WIDE[:10], WIDE[:9], WIDE[3:9], (0, 0, 0) + WIDE[:5], WIDE[:2], WIDE[:1], (0,) * 5 + WIDE[:1]):
            self.check_rule(sums)

    def test_wide_sums_behind_zeros(self):
        # Each polynomial of the greatest degree is a rule, none of them is the only one.
        for number in (13, 16, 23, 24):
            for ahead in range(number):
                sums = (0,) * ahead + (10 ** 399,) + (0,) * (number - ahead - 1)
                self.assertEqual(rule_length(sums), ahead + 1)
                expected = (0,) * (ahead + 1) + (1,) if 2 * (ahead + 1) <= number else None
                self.assertEqual(rule_of(sums), expected)

    def test_one_wrong_sum(self):
        for at in (0, 1, 11, 12, 20, 23):
            sums = list(sums_of(TWELVE[:5], 24))
            sums[at] += 1
            self.check_rule(tuple(sums))

    def test_rules_with_a_great_last_coefficient(self):
        # No ledger has such sums: each one is a fraction of the one behind it, and so on.
        powers = tuple(3 ** (23 - j) * 10 ** 380 for j in range(24))
        self.check_rule(powers)
        self.assertEqual(rule_of(powers), (-1, 3))
        mixed = tuple(x * 7 ** j + y * 5 ** j * 10 ** 370 for j, (x, y) in enumerate(zip(powers, powers[::-1])))
        self.check_rule(mixed)

    def test_multiples_of_primes(self):
        # A search modulo a prime must not take multiples of the prime for 0.
        for prime in (2, 3, 101, 103, 2 ** 61 - 1, 2 ** 89 - 1, 2 ** 521 - 1, 2 ** 607 - 1, 2 ** 1279 - 1):
            for row in itertools.product((0, 1, prime), (0, prime), (1, prime + 1), (0, prime, 2), (1, -prime)):
                self.check_rule(row)
                self.check_rule(row + row[::-1])
            wide = tuple(number * prime ** 2 for number in sums_of(TWELVE[:8], 24))
            self.assertEqual(rule_of(wide), from_roots([key for key, _ in TWELVE[:8]]))
            keys = [k * prime for k in range(-4, 4)]
            row = sums_of(tuple((key, 1 + k) for k, key in enumerate(keys)), 24)
            self.assertEqual(rule_of(row), from_roots(keys))
            # A wrong sum, with which the rule is longer.
            self.assertGreater(rule_length(tuple(x + (j == 9) for j, x in enumerate(row))), 8)

    def test_roots_that_are_no_integers(self):
        # s(j) = the trace of the powers of roots of a polynomial with the last coefficient 1.
        shape = times(times((-2, 0, 1), (5, 1, 1)), times((-TOP, 3, 0, 1), (TOP, 1)))
        sums = [8, 0, 0, 1, 10 ** 200, 0, 1, 2]
        while len(sums) < 24:
            sums.append(-sum(factor * number for factor, number in zip(shape, sums[-8:])))
        self.assertEqual(rule_of(tuple(sums)), shape)


class Determinants(unittest.TestCase):
    """Point 19: determinant."""

    def test_determinant(self):
        for sums, size, expected in [
            ((1, 2, 4, 9), 2, 0), ((1, 2, 4, 9), 0, 1), ((1, 2, 4, 9), 1, 1), ((7,), 0, 1), ((7,), 1, 7), ((0,), 1, 0),
            ((0, 1, 0), 2, -1), ((0, 1), 1, 0), ((6, 12, 78), 2, 324), ((0, 0, 1, 0, 0), 3, -1), ((0, 0, 1), 2, 0),
            ((0, 0, 0, 2, 0, 0, 0), 4, 16), ((1, 1, 2, 4, 9), 3, 1), ((5, -3), 0, 1), ((5, -3), 1, 5),
        ]:
            check_named(self, determinant, ["sums", "size"], [sums, size], expected)

    def test_all_small_sums(self):
        more = list(itertools.product((0, 1, -2), repeat=7))[::5] + list(itertools.product((0, 3), repeat=9))
        for sums in SMALL_SUMS + more:
            for size in range((len(sums) + 1) // 2 + 1):
                table = [sums[i:i + size] for i in range(size)]
                self.assertEqual(determinant(sums, size), determinant_of(table))

    def test_at_the_limits(self):
        for sums in (WIDE, sums_of(TWELVE, 24), WIDE[:23]):
            table = [sums[i:i + 12] for i in range(12)]
            self.assertEqual(determinant(sums, 12), determinant_of(table))
        self.assertEqual(determinant(sums_of(TWELVE[:11], 24), 12), 0)

    def test_errors(self):
        for sums in ((5,), (1, 2), (1, 2, 3), WIDE):
            most = (len(sums) + 1) // 2
            self.assertIsInstance(determinant(sums, most), int)
            check_wrong(self, determinant, [sums, 0], [
                (InvalidSums, NOT_SUMS), (InvalidNumber, others(NOT_INTEGERS, 0) + [most + 1, TOP])])


class Amounts(unittest.TestCase):
    """Point 20."""

    def test_amounts_for(self):
        for sums, keys, expected in [
            ((1, 1), (0, 2), [(1, 2), (1, 2)]), ((1, 1), (), []), ((0,), (), []), ((5,), (9,), [(5, 1)]),
            ((5, 7), (9,), [(5, 1)]), ((0, 0), (-1, 4), [(0, 1), (0, 1)]), ((6, 12), (-1, 5), [(3, 1), (3, 1)]),
            ((6, 12, 99), (-1, 5), [(3, 1), (3, 1)]), ((1, 0), (2, 5), [(5, 3), (-2, 3)]),
            ((0, -2), (-3, 3), [(1, 3), (-1, 3)]), ((0, 0, 1), (0, 1, 2), [(1, 2), (-1, 1), (1, 2)]),
            ((1, 0), (-TOP, TOP), [(1, 2), (1, 2)]), ((0, 1), (0, TOP), [(-1, TOP), (1, TOP)]),
        ]:
            check_named(self, amounts_for, ["sums", "keys"], [sums, keys], expected)

    def test_all_small_ones(self):
        rows = [keys for many in range(5) for keys in itertools.combinations((-3, -1, 0, 2, 7), many)]
        for sums in SMALL_SUMS[::4]:
            for keys in rows:
                if len(keys) <= len(sums):
                    found = amounts_for(sums, keys)
                    exact = solved([[key ** j for key in keys] for j in range(len(keys))], sums[:len(keys)])
                    self.assertEqual(found, [(number.numerator, number.denominator) for number in exact])

    def test_at_the_limits(self):
        keys = tuple(key for key, _ in TWELVE) + tuple(range(TOP, TOP + 12))
        self.assertEqual(amounts_for(sums_of(TWELVE, 24), keys), [(x, 1) for _, x in TWELVE] + [(0, 1)] * 12)
        found = amounts_for(WIDE, keys)
        for top, bottom in found:
            self.assertGreater(bottom, 0)
            self.assertEqual(math.gcd(top, bottom), 1)
        for j in (0, 1, 12, 23):
            total = sum(Fraction(top, bottom) * key ** j for key, (top, bottom) in zip(keys, found))
            self.assertEqual(total, WIDE[j])

    def test_new_lists(self):
        check_new_lists(self, amounts_for, [(1, 1), (0, 2)])
        check_new_lists(self, amounts_for, [(1, 1), ()])

    def test_errors(self):
        check_wrong(self, amounts_for, [(1, 2, 3), (5,)], [(InvalidSums, NOT_SUMS), (InvalidKeys, NOT_KEYS)])
        for sums, keys in [((1,), (1, 2)), ((1, 2), (1, 2, 3)), (WIDE, tuple(range(25)))]:
            assert_error(self, InvalidKeys, amounts_for, sums, keys)


if __name__ == "__main__":
    unittest.main()
