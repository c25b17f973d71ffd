"""Points 1 to 3 and 12 to 15: sums."""

import itertools
import math
import unittest
from fractions import Fraction

from changesums.errors import (
    InvalidAmount, InvalidKey, InvalidLedger, InvalidNumber, InvalidStep, InvalidSums, OtherLength)
from changesums.ledgers import added, less, moved, product, scaled, stretched
from changesums.sums import (
    blind, parting, sign_changes, sums_added, sums_less, sums_moved, sums_of, sums_product, sums_quotient, sums_scaled,
    sums_stretched, with_change)
from support import (
    NOT_INTEGERS, NOT_LEDGERS, NOT_SUMS, assert_error, check_named, check_wrong, others, plain_sums, small_ledgers)

TOP = 10 ** 15 - 1
A = ((-1, 3), (5, 3))
LEDGERS = small_ledgers()
SIXTY = tuple((-TOP + 7 * k * k, (-1) ** k * (TOP - k)) for k in range(60))
# Sums at the limits of length and of digits; no ledger needs to have them.
WIDE = tuple((-1) ** (j // 3) * (10 ** 900 - 1 - 10 ** (20 * j)) for j in range(40))
WIDER = tuple((-1) ** (j // 2) * (10 ** 900 - 7 - j * 10 ** 880) for j in range(40))
TRIPLES = list(itertools.product(range(-2, 3), repeat=3))


def plain_product(one, other):
    """Return the product of sums, by plain words of the document."""
    return tuple(sum(math.comb(j, i) * one[i] * other[j - i] for i in range(j + 1)) for j in range(len(one)))


class SumsOfLedgers(unittest.TestCase):
    """Point 12."""

    def test_sums_of(self):
        for ledger, number, expected in [
            (A, 4, (6, 12, 78, 372)), (A, 1, (6,)), ((), 1, (0,)), ((), 3, (0, 0, 0)),
            # 0 to the power 0 is 1.
            (((0, 7),), 1, (7,)), (((0, 7),), 3, (7, 0, 0)), (((-2, 1), (0, -4)), 3, (-3, -2, 4)),
            (((-3, 2),), 4, (2, -6, 18, -54)), (((1, 5),), 3, (5, 5, 5)),
            (((-TOP, TOP),), 3, (TOP, -TOP ** 2, TOP ** 3)),
        ]:
            check_named(self, sums_of, ["ledger", "number"], [ledger, number], expected)

    def test_all_small_ledgers(self):
        for ledger in LEDGERS:
            for number in range(1, 8):
                self.assertEqual(sums_of(ledger, number), plain_sums(ledger, number))

    def test_at_the_limits(self):
        self.assertEqual(sums_of(SIXTY, 40), plain_sums(SIXTY, 40))

    def test_errors(self):
        check_wrong(self, sums_of, [A, 1], [
            (InvalidLedger, NOT_LEDGERS), (InvalidNumber, others(NOT_INTEGERS, 1))])


class SumsOfChanges(unittest.TestCase):
    """Point 13."""

    def test_with_change(self):
        names = ["sums", "key", "by"]
        for sums, key, by, expected in [
            ((6, 12, 78, 372), 5, -3, (3, -3, 3, -3)), ((1,), 9, 4, (5,)), ((1, 2, 3), 7, 0, (1, 2, 3)),
            ((1, 2, 3), 0, 5, (6, 2, 3)), ((0, 0, 1), -2, 1, (1, -2, 5)), ((0, 0), TOP, -TOP, (-TOP, -TOP * TOP)),
        ]:
            check_named(self, with_change, names, [sums, key, by], expected)

    def test_with_change_of_ledgers(self):
        for ledger in LEDGERS:
            for key, by in ((-2, 2), (0, 1), (3, -1), (7, 5), (1, 0), (0, 0)):
                changed = added(ledger, ((key, by),) if by else ())
                self.assertEqual(with_change(plain_sums(ledger, 5), key, by), plain_sums(changed, 5))

    def test_added_less_and_scaled_of_ledgers(self):
        for one in LEDGERS:
            first = plain_sums(one, 5)
            for other in LEDGERS[::7]:
                second = plain_sums(other, 5)
                self.assertEqual(sums_added(first, second), plain_sums(added(one, other), 5))
                self.assertEqual(sums_less(first, second), plain_sums(less(one, other), 5))
            for by in (-3, 0, 1, 4):
                self.assertEqual(sums_scaled(first, by), plain_sums(scaled(one, by), 5))

    def test_any_sums(self):
        for one, other, total, rest in [
            ((0, 0, 1), (5, -1, 1), (5, -1, 2), (-5, 1, 0)), ((4,), (-4,), (0,), (8,)), ((0,), (0,), (0,), (0,)),
        ]:
            check_named(self, sums_added, ["one", "other"], [one, other], total)
            check_named(self, sums_less, ["one", "other"], [one, other], rest)
        for sums, by, expected in [((0, 0, 1), -3, (0, 0, -3)), ((5, 6), 0, (0, 0)), ((7,), 1, (7,))]:
            check_named(self, sums_scaled, ["sums", "by"], [sums, by], expected)

    def test_at_the_limits(self):
        self.assertEqual(sums_added(WIDE, WIDER), tuple(x + y for x, y in zip(WIDE, WIDER)))
        self.assertEqual(sums_less(WIDE, WIDER), tuple(x - y for x, y in zip(WIDE, WIDER)))
        self.assertEqual(sums_scaled(WIDE, -TOP), tuple(-TOP * x for x in WIDE))
        self.assertEqual(with_change(WIDE, -TOP, TOP), tuple(x + TOP * (-TOP) ** j for j, x in enumerate(WIDE)))

    def test_errors(self):
        check_wrong(self, with_change, [(1, 2), 0, 0], [
            (InvalidSums, NOT_SUMS), (InvalidKey, NOT_INTEGERS), (InvalidAmount, NOT_INTEGERS)])
        check_wrong(self, sums_scaled, [(1, 2), 0], [(InvalidSums, NOT_SUMS), (InvalidAmount, NOT_INTEGERS)])


class TwoSums(unittest.TestCase):
    """Points 13 and 14: errors of the functions of two sums."""

    def test_errors(self):
        for function in (sums_added, sums_less, sums_product, sums_quotient):
            check_wrong(self, function, [(1, 2), (1, 2)], [(InvalidSums, NOT_SUMS), (InvalidSums, NOT_SUMS)])
            for one, other in [((1,), (1, 2)), ((1, 2), (1,)), (WIDE, WIDE[:-1]), ((0, 1), (0,)), ((1, 2, 3), (0, 1))]:
                assert_error(self, OtherLength, function, one, other)
            # A wrong argument is told before unlike lengths.
            assert_error(self, InvalidSums, function, (1, True), (1,))
            assert_error(self, InvalidSums, function, (1,), (1, 2.0))
            assert_error(self, InvalidSums, function, (), (1,))
            assert_error(self, InvalidSums, function, (1,), ())


class SumsOfProducts(unittest.TestCase):
    """Point 14."""

    def test_product(self):
        names = ["one", "other"]
        for one, other, expected in [
            ((1, 1, 1), (2, 0, 4), (2, 2, 6)), ((3,), (-4,), (-12,)), ((1, 2), (3, 4), (3, 10)),
            ((0, 0, 1), (0, 0, 1), (0, 0, 0)), ((1, 0, 0), (5, 6, 7), (5, 6, 7)), ((0, 1, 0), (0, 1, 0), (0, 0, 2)),
        ]:
            check_named(self, sums_product, names, [one, other], expected)

    def test_products_of_ledgers(self):
        for one in LEDGERS[::2]:
            for other in LEDGERS[::5]:
                made = sums_product(plain_sums(one, 6), plain_sums(other, 6))
                self.assertEqual(made, plain_sums(product(one, other), 6))

    def test_moved(self):
        for sums, by, expected in [
            ((6, 12, 78, 372), 2, (6, 24, 150, 1032)), ((1, 2, 3), 0, (1, 2, 3)), ((5,), TOP, (5,)),
            ((0, 0, 1), 4, (0, 0, 1)), ((0, 1, 0), -3, (0, 1, -6)), ((1, 0), -TOP, (1, -TOP)),
        ]:
            check_named(self, sums_moved, ["sums", "by"], [sums, by], expected)

    def test_stretched(self):
        for sums, by, expected in [
            ((6, 12, 78, 372), 2, (6, 24, 312, 2976)), ((1, 2, 3), 1, (1, 2, 3)), ((5,), -TOP, (5,)),
            ((0, 0, 1), 4, (0, 0, 16)), ((1, 1, 1, 1), -1, (1, -1, 1, -1)), ((2, 3), TOP, (2, 3 * TOP)),
        ]:
            check_named(self, sums_stretched, ["sums", "by"], [sums, by], expected)

    def test_moved_and_stretched_ledgers(self):
        for ledger in LEDGERS:
            sums = plain_sums(ledger, 6)
            for by in (-5, -1, 0, 1, 2):
                self.assertEqual(sums_moved(sums, by), plain_sums(moved(ledger, by), 6))
                if by != 0:
                    self.assertEqual(sums_stretched(sums, by), plain_sums(stretched(ledger, by), 6))

    def test_moved_and_stretched_of_any_sums(self):
        for sums in TRIPLES:
            for by in (-3, 0, 2):
                expected = tuple(
                    sum(math.comb(j, i) * sums[i] * by ** (j - i) for i in range(j + 1)) for j in range(3))
                self.assertEqual(sums_moved(sums, by), expected)
            self.assertEqual(sums_stretched(sums, -3), (sums[0], -3 * sums[1], 9 * sums[2]))

    def test_at_the_limits(self):
        self.assertEqual(sums_product(WIDE, WIDER), plain_product(WIDE, WIDER))
        self.assertEqual(sums_moved(sums_moved(WIDE, TOP), -TOP), WIDE)
        self.assertEqual(sums_moved(WIDE, TOP), plain_product(WIDE, tuple(TOP ** j for j in range(40))))
        self.assertEqual(sums_stretched(WIDE, -TOP), tuple(x * (-TOP) ** j for j, x in enumerate(WIDE)))
        self.assertEqual(sums_moved(sums_of(SIXTY, 40), -TOP), sums_of(moved(SIXTY, -TOP), 40))

    def test_errors(self):
        check_wrong(self, sums_moved, [(1, 2), 0], [(InvalidSums, NOT_SUMS), (InvalidKey, NOT_INTEGERS)])
        check_wrong(self, sums_stretched, [(1, 2), -1], [(InvalidSums, NOT_SUMS), (InvalidStep, NOT_INTEGERS + [0])])


class Quotients(unittest.TestCase):
    """Point 14: sums_quotient."""

    def test_quotient(self):
        for one, other, expected in [
            ((2, 2, 6), (1, 1, 1), (2, 0, 4)), ((1, 0), (2, 2), None), ((0, 1), (0, 1), None), ((0, 0), (0, 0), None),
            ((0, 0), (0, 5), None), ((0,), (3,), (0,)), ((-6,), (3,), (-2,)), ((7,), (3,), None), ((-7,), (-7,), (1,)),
            # The first integer goes, a later one would be a fraction.
            ((4, 1), (2, 0), None), ((4, 2, 1), (2, 0, 0), None), ((2, 2, 3), (2, 2, 2), None),
        ]:
            check_named(self, sums_quotient, ["one", "other"], [one, other], expected)

    def test_all_small_quotients(self):
        for one in TRIPLES:
            for other in TRIPLES:
                expected = None
                if other[0] != 0:
                    row = []
                    for j in range(3):
                        rest = one[j] - sum(math.comb(j, i) * row[i] * other[j - i] for i in range(j))
                        row.append(Fraction(rest, other[0]))
                    if all(number.denominator == 1 for number in row):
                        expected = tuple(int(number) for number in row)
                found = sums_quotient(one, other)
                self.assertEqual(found, expected)
                if found is not None:
                    self.assertEqual(sums_product(found, other), one)

    def test_gives_the_factor_back(self):
        for one in LEDGERS:
            first = plain_sums(one, 6)
            for other in LEDGERS[::5]:
                second = plain_sums(other, 6)
                expected = None if second[0] == 0 else first
                self.assertEqual(sums_quotient(sums_product(first, second), second), expected)
        self.assertEqual(sums_quotient(sums_product(WIDE, WIDER), WIDER), WIDE)
        self.assertEqual(sums_quotient(sums_product(WIDE, (-1,) + WIDER[1:]), (-1,) + WIDER[1:]), WIDE)


class Partings(unittest.TestCase):
    """Point 15."""

    def test_parting(self):
        for one, other, expected in [
            (A, ((-1, 3), (5, 2)), 0), ((), (), None), (A, A, None), ((), ((4, 1),), 0), (((4, 1),), (), 0),
            (((4, 1),), ((5, 1),), 1), (((0, 1),), ((5, 1),), 1), (((0, 1), (2, 1)), ((1, 2),), 2),
            (SIXTY, SIXTY, None), (SIXTY, SIXTY[:-1], 0), (((-TOP, 1), (TOP, 1)), ((0, 2),), 2),
            (((0, 1), (3, 3)), ((1, 3), (4, 1)), 1), (((0, 1), (2, 3)), ((1, 3), (3, 1)), 3),
        ]:
            check_named(self, parting, ["one", "other"], [one, other], expected)

    def test_parting_of_all_pairs(self):
        for one in LEDGERS:
            for other in LEDGERS:
                rest = less(one, other)
                sums = [plain_sums(one, 9), plain_sums(other, 9)]
                places = [j for j in range(9) if sums[0][j] != sums[1][j]]
                self.assertEqual(parting(one, other), places[0] if places else None)
                if rest:
                    self.assertLess(parting(one, other), len(rest))

    def test_blind_and_sign_changes(self):
        for ledger, first, second in [
            ((), None, 0), (A, 0, 0), (((0, 1), (1, -2), (2, 1)), 2, 2), (((7, -3),), 0, 0), (((0, -3),), 0, 0),
            (((0, 1), (1, -1)), 1, 1), (((0, 1), (1, -2)), 0, 1), (((0, 1), (1, 1), (2, -2)), 1, 1),
            (((0, -1), (1, 1), (5, 2), (6, -1), (9, -4)), 0, 2), (((-1, 1), (0, -2), (1, 1)), 2, 2),
            (((0, 5), (1, -1), (2, 5)), 0, 2), (((0, 1), (3, -1), (4, -1), (7, 1)), 2, 2),
        ]:
            check_named(self, blind, ["ledger"], [ledger], first)
            check_named(self, sign_changes, ["ledger"], [ledger], second)

    def test_blind_of_differences(self):
        for many in range(60):
            ledger = tuple((k * 3 - TOP, (-1) ** k * math.comb(many, k)) for k in range(many + 1))
            self.assertEqual(blind(ledger), many)
            self.assertEqual(sign_changes(ledger), many)

    def test_blind_is_at_most_the_sign_changes(self):
        for ledger in LEDGERS:
            if ledger:
                self.assertEqual(blind(ledger), parting(ledger, ()))
                self.assertLessEqual(blind(ledger), sign_changes(ledger))

    def test_errors(self):
        check_wrong(self, parting, [A, ()], [(InvalidLedger, NOT_LEDGERS), (InvalidLedger, NOT_LEDGERS)])
        for function in (blind, sign_changes):
            check_wrong(self, function, [A], [(InvalidLedger, NOT_LEDGERS)])


if __name__ == "__main__":
    unittest.main()
