"""Points 1 to 3 and 21 to 25: ledgers told back from sums."""

import itertools
import math
import unittest

from changesums.errors import (
    InvalidLedger, InvalidNumber, InvalidRows, InvalidSums, OtherLength, TooFewSums)
from changesums.ledgers import added, is_ledger, less
from changesums.polynomials import from_roots, integer_roots, times
from changesums.rules import amounts_for, rule_length, rule_of
from changesums.sums import sums_of
from changesums.told import changed, mended, mistaken, reason, steps_told, sure, told
from support import (
    NOT_INTEGERS, NOT_LEDGERS, NOT_ROWS, NOT_SUMS, assert_error, call, check_named, check_new_lists, check_wrong,
    others, plain_sums, small_ledgers)

TOP = 10 ** 15 - 1
A = ((-1, 3), (5, 3))
LEDGERS = small_ledgers()
SIXTY = tuple((-TOP + 7 * k * k, (-1) ** k * (TOP - k)) for k in range(60))
TWELVE = tuple((-TOP + 10 ** 13 * k * k, (-1) ** k * (TOP - k)) for k in range(12))
TWENTY = tuple(sorted(((-1) ** k * (5 * 10 ** 12 - k ** 5), TOP - k ** 3) for k in range(20)))
WIDE = tuple((-1) ** (j // 3) * (10 ** 500 - 1 - 10 ** (12 * j)) // (j * j + 1) for j in range(40))
SMALL_SUMS = [row for length in (1, 2, 3, 4) for row in itertools.product(range(-2, 4), repeat=length)]


def plain_reason(sums):
    """Return why no ledger is told, by plain words of the document, with the functions of points 10, 19 and 20."""
    length = rule_length(sums)
    if 2 * length > len(sums):
        return ("rule", length)
    keys = tuple(root for root, _ in integer_roots(rule_of(sums)))
    if len(keys) < length:
        return ("roots", len(keys))
    for key, (_, bottom) in zip(keys, amounts_for(sums, keys)):
        if bottom != 1:
            return ("amount", key)
    return None


class Told(unittest.TestCase):
    """Points 21 and 22."""

    CASES = [
        ((6, 12, 78, 372), A, None), ((1, 2, 4, 9), None, ("rule", 3)), ((2, 0, 4, 0), None, ("roots", 0)),
        ((1, 1, 2, 4), None, ("amount", 0)), ((0,), (), None), ((0, 0, 0), (), None), ((5,), None, ("rule", 1)),
        ((5, 0), ((0, 5),), None), ((5, 0, 0), ((0, 5),), None), ((0, 5), None, ("rule", 2)),
        ((2, 14), ((7, 2),), None), ((2, 14, 98), ((7, 2),), None), ((2, 14, 99), None, ("rule", 2)),
        ((2, 15), None, ("roots", 0)), ((-2, 14), ((-7, -2),), None), ((0, 1, 2, 3), None, ("roots", 1)),
        ((2, -2), ((-1, 2),), None), ((1, TOP), ((TOP, 1),), None), ((0, 0, 1), None, ("rule", 3)),
        # One integer root and one that is a fraction, and a first root whose amount is an integer.
        ((9, 5, 3, 2), None, ("roots", 1)), ((2, -3, 30, -111, 666, -3003), None, ("amount", 1)),
        ((4, 3, 3, 4), None, ("roots", 0)), ((1, 0, 1, 0), None, ("amount", -1)), ((3, 2, 4, 8), ((0, 2), (2, 1)), None),
        ((1, 3, 5, 9), None, ("roots", 0)), ((3, 3, 3, 3), ((1, 3),), None), ((2, 1, 1, 1), ((0, 1), (1, 1)), None),
        ((1, 2, 2, 2, 2, 2), ((0, -1), (1, 2)), None), ((1, 0, 0, 0, 0, 1), None, ("rule", 5)),
        ((0, 1, 4, 12), None, ("roots", 1)), ((0, 2, 4, 6, 8, 10), None, ("roots", 1)),
    ]

    def test_told_and_reason(self):
        for sums, ledger, why in self.CASES:
            check_named(self, told, ["sums"], [sums], ledger)
            check_named(self, reason, ["sums"], [sums], why)

    def test_each_small_ledger_is_told(self):
        for ledger in LEDGERS:
            for number in range(max(1, 2 * len(ledger)), 2 * len(ledger) + 4):
                sums = plain_sums(ledger, number)
                self.assertEqual(told(sums), ledger)
                self.assertIsNone(reason(sums))

    def test_all_small_sums(self):
        known = {}
        for keys in itertools.combinations(range(-6, 7), 2):
            for amounts in itertools.product(range(-6, 7), repeat=2):
                ledger = tuple(pair for pair in zip(keys, amounts) if pair[1] != 0)
                known[plain_sums(ledger, 4)] = ledger
        for sums in SMALL_SUMS:
            found = told(sums)
            why = reason(sums)
            self.assertEqual(why, plain_reason(sums))
            self.assertEqual(found is None, why is not None)
            if found is not None:
                self.assertTrue(is_ledger(found))
                self.assertLessEqual(2 * len(found), len(sums))
                self.assertEqual(plain_sums(found, len(sums)), sums)
            if len(sums) == 4 and sums in known:
                self.assertEqual(found, known[sums])

    def test_more_keys_than_half_the_sums(self):
        # The ledger of the sums has too many keys, so another one or none is told.
        for ledger in LEDGERS:
            for number in range(1, 2 * len(ledger)):
                found = told(plain_sums(ledger, number))
                if found is not None:
                    self.assertNotEqual(found, ledger)
                    self.assertEqual(plain_sums(found, number), plain_sums(ledger, number))

    def test_at_the_limits(self):
        for many in range(13):
            ledger = TWELVE[12 - many:]
            for number in (2 * many, 2 * many + 1, 24):
                if number > 0:
                    self.assertEqual(told(sums_of(ledger, number)), ledger)
                    self.assertIsNone(reason(sums_of(ledger, number)))
        self.assertIsNone(told(sums_of(TWELVE, 23)))
        self.assertEqual(reason(sums_of(TWELVE, 23)), ("rule", 12))
        near = tuple((TOP - 12 + k, (-1) ** k * TOP) for k in range(12))
        self.assertEqual(told(sums_of(near, 24)), near)

    def test_wide_sums_without_a_ledger(self):
        wide = tuple(number // 10 ** 100 for number in WIDE[:24])
        self.assertIsNone(told(wide))
        self.assertEqual(reason(wide), plain_reason(wide))
        self.assertEqual(reason(wide)[0], "roots")
        self.assertIsNone(told(wide[:23]))
        self.assertEqual(reason(wide[:23]), ("rule", 12))
        sums = sums_of(TWELVE, 24)
        for at in (0, 11, 23):
            wrong = sums[:at] + (sums[at] + 1,) + sums[at + 1:]
            self.assertIsNone(told(wrong))
            self.assertEqual(reason(wrong), plain_reason(wrong))

    def test_wide_amounts_that_are_no_integers(self):
        # The amounts are halves at two keys: the sums are integers, as both keys are even or both odd.
        for first, second in ((TOP - 2, TOP), (-TOP, 5), (-TOP - 1, TOP + 1)):
            sums = tuple((first ** j + second ** j) // 2 for j in range(24))
            self.assertIsNone(told(sums))
            self.assertEqual(reason(sums), ("amount", first))
            more = tuple(one + other for one, other in zip(sums, sums_of(((first - 7, 1), (second + 7, 4)), 24)))
            self.assertEqual(reason(more), ("amount", first))

    def test_wide_sums_behind_zeros(self):
        for ahead in range(24):
            sums = (0,) * ahead + (10 ** 399,) + (0,) * (23 - ahead)
            expected = ("rule", ahead + 1) if ahead >= 12 else ("roots", 1) if ahead > 0 else None
            self.assertEqual(reason(sums), expected)
            self.assertEqual(told(sums), ((0, 10 ** 399),) if ahead == 0 else None)

    def test_wide_rules_with_few_integer_roots(self):
        # s(j) goes on by the rule, whatever its first integers are; the rule is the shortest one.
        for shape, many in [
            (times((-2, 0, 1), from_roots([TOP, -TOP, 7, 101, 0, -5])), 6),
            (times((1, 1, 1), from_roots([TOP, TOP, -3, 4, 10 ** 14])), 4),
            (times((TOP, 0, 0, 1), (1, 0, 0, 0, 0, 1)), 1), (times((-TOP ** 2, 0, 1), (3, 0, 1)), 2),
        ]:
            degree = len(shape) - 1
            sums = [0] * (degree - 1) + [1]
            while len(sums) < 24:
                sums.append(-sum(factor * number for factor, number in zip(shape, sums[-degree:])))
            self.assertEqual(rule_of(tuple(sums)), shape)
            self.assertIsNone(told(tuple(sums)))
            self.assertEqual(reason(tuple(sums)), ("roots", many))

    def test_multiples_of_primes(self):
        # A search modulo a prime must neither join keys nor take amounts for 0.
        for prime in (2, 3, 101, 103, 2 ** 61 - 1, 2 ** 521 - 1, 2 ** 1279 - 1):
            for ledger in (
                ((0, prime), (prime, 1)), ((1, 1), (prime + 1, -1)), ((1, prime - 1), (prime + 1, 1)),
                tuple((k * prime, 1 + k) for k in range(8)), tuple((k, prime * (k + 1)) for k in range(-5, 5)
                                                                  if k != -1),
                ((-prime, prime), (0, 2 * prime), (prime, -3 * prime)),
            ):
                for number in (2 * len(ledger), 24):
                    self.assertEqual(told(sums_of(ledger, number)), ledger)
                    self.assertIsNone(reason(sums_of(ledger, number)))

    def test_errors(self):
        for function in (told, reason):
            check_wrong(self, function, [(1, 2)], [(InvalidSums, NOT_SUMS)])


class SureAndMistaken(unittest.TestCase):
    """Point 23."""

    def test_sure(self):
        for sums, most, expected in [
            ((2, 14), 0, ((7, 2),)), ((2, 14), 1, ((7, 2),)), ((2, 14), 2, None), ((2, 15), 0, None), ((0,), 0, ()),
            ((0,), 1, ()), ((0,), 2, None), ((0, 0, 0), 3, ()), ((0, 0, 0), 4, None), ((6, 12, 78, 372), 2, A),
            ((6, 12, 78, 372), 3, None), ((6, 12, 78, 372), TOP, None), ((5,), 0, None),
        ]:
            check_named(self, sure, ["sums", "most"], [sums, most], expected)

    def test_sure_of_all_small_ledgers(self):
        for ledger in LEDGERS[::2]:
            for number in range(1, 8):
                sums = plain_sums(ledger, number)
                found = told(sums)
                for most in range(9):
                    right = found is not None and len(found) + most <= number
                    self.assertEqual(sure(sums, most), found if right else None)
                    # No other ledger with so few keys has the sums.
                    if right and len(ledger) <= most:
                        self.assertEqual(found, ledger)

    def test_mistaken(self):
        for ledger, number, expected in [
            (((6, 1), (8, 1)), 2, ((7, 2),)), (A, 4, None), (A, 1, None), ((), 1, None), ((), 5, None),
            (((0, 1), (1, -1)), 1, ()), (((0, 1), (1, -2), (2, 1)), 2, ()), (((0, 1), (1, -2), (2, 1)), 3, None),
            (((0, 3),), 1, None), (((0, 1), (2, 1)), 2, ((1, 2),)), (((0, 1), (2, 1)), 3, None),
            (((0, 1), (2, 1)), 4, None), (((0, 1), (3, 1)), 2, None),
        ]:
            check_named(self, mistaken, ["ledger", "number"], [ledger, number], expected)

    def test_mistaken_of_all_small_ledgers(self):
        for ledger in LEDGERS:
            for number in range(1, 9):
                found = told(plain_sums(ledger, number))
                self.assertEqual(mistaken(ledger, number), None if found == ledger else found)
                if number >= 2 * len(ledger):
                    self.assertIsNone(mistaken(ledger, number))

    def test_at_the_limits(self):
        sums = sums_of(TWELVE, 24)
        self.assertEqual(sure(sums, 12), TWELVE)
        self.assertIsNone(sure(sums, 13))
        self.assertIsNone(mistaken(TWELVE, 24))
        self.assertIsNone(mistaken(SIXTY, 24))
        many = tuple((k - TOP, (-1) ** k * math.comb(40, k)) for k in range(41))
        self.assertEqual(mistaken(added(many, ((TOP, TOP),)), 24), ((TOP, TOP),))

    def test_errors(self):
        check_wrong(self, sure, [(1, 2), 0], [(InvalidSums, NOT_SUMS), (InvalidNumber, others(NOT_INTEGERS, 0))])
        check_wrong(self, mistaken, [A, 1], [(InvalidLedger, NOT_LEDGERS), (InvalidNumber, others(NOT_INTEGERS, 1))])


class Changes(unittest.TestCase):
    """Point 24."""

    def test_changed(self):
        for before, after, expected in [
            ((6, 12, 78, 372), (3, -19, -221, -2419), ((5, 1), (9, -4))), ((1, 2), (1, 2), ()), ((1,), (1,), ()),
            ((1,), (2,), None), ((0, 0), (2, 14), ((7, 2),)), ((2, 14), (0, 0), ((7, -2),)), ((1, 1), (3, 2), None),
            ((0, 0, 1), (0, 0, 1), ()), ((0, 0, 0), (0, 0, 1), None),
        ]:
            check_named(self, changed, ["before", "after"], [before, after], expected)

    def test_changes_of_ledgers(self):
        for one, other in itertools.product(LEDGERS[::2], LEDGERS[::5]):
            rest = less(other, one)
            number = max(1, 2 * len(rest))
            self.assertEqual(changed(plain_sums(one, number), plain_sums(other, number)), rest)

    def test_steps_told(self):
        for rows, expected in [
            ([(1,)], []), ([(1, 2)], []), ([(1, 2), (1, 2)], [()]), ([(0, 0), (2, 14), (2, 15)], [((7, 2),), None]),
            ([(2, 14), (0, 0), (2, 14)], [((7, -2),), ((7, 2),)]), ([(1,), (1,), (2,), (2,)], [(), None, ()]),
        ]:
            check_named(self, steps_told, ["rows"], [rows], expected)

    def test_steps_of_ledgers(self):
        rows = [plain_sums(ledger, 6) for ledger in LEDGERS]
        expected = [changed(one, other) for one, other in zip(rows, rows[1:])]
        self.assertEqual(steps_told(rows), expected)

    def test_steps_at_the_limits(self):
        ledgers = [((k - TOP, TOP - k), (TOP - k * k, k + 1)) for k in range(400)]
        rows = [sums_of(ledger, 24) for ledger in ledgers]
        before = list(rows)
        self.assertEqual(steps_told(rows), [less(other, one) for one, other in zip(ledgers, ledgers[1:])])
        self.assertEqual(rows, before)
        self.assertEqual(changed(sums_of(SIXTY, 24), sums_of(added(SIXTY, TWELVE), 24)), TWELVE)

    def test_new_lists(self):
        check_new_lists(self, steps_told, [[(0, 0), (2, 14)]])
        check_new_lists(self, steps_told, [[(0, 0)]])

    def test_errors(self):
        check_wrong(self, changed, [(1, 2), (1, 2)], [(InvalidSums, NOT_SUMS), (InvalidSums, NOT_SUMS)])
        for one, other in [((1,), (1, 2)), ((1, 2), (1,)), ((0,) * 24, (0,) * 23)]:
            assert_error(self, OtherLength, changed, one, other)
        assert_error(self, InvalidSums, changed, (1,), (1, True))
        assert_error(self, InvalidSums, changed, (), (1,))
        check_wrong(self, steps_told, [[(1,)]], [(InvalidRows, NOT_ROWS)])


class Mended(unittest.TestCase):
    """Point 25."""

    def test_mended(self):
        names = ["sums", "keys", "wrong"]
        for sums, keys, wrong, expected in [
            ((3, 6, 12, 7, 48, 96), 1, 1, (((2, 3),), [3])), ((3, 6, 12, 24, 48, 96), 1, 1, (((2, 3),), [])),
            ((3, 6, 12, 24, 48, 96), 1, 0, (((2, 3),), [])), ((3, 6, 12, 7, 48, 96), 1, 0, None),
            ((3, 6, 12, 7, 48, 97), 1, 1, None), ((0, 0), 1, 0, ((), [])), ((0, 0, 0, 5, 0, 0), 1, 1, ((), [3])),
            ((0, 0, 0, 5, 0, 5), 1, 1, None), ((5, 0, 0, 0, 0, 0), 1, 1, ((), [0])), ((5, 0), 1, 0, None),
            ((5, 5), 1, 0, (((1, 5),), [])), ((5, -5), 1, 0, (((-1, 5),), [])), ((1, 2), 1, 0, (((2, 1),), [])),
            ((2, 1), 1, 0, None), ((6, 12, 78, 372), 2, 0, (A, [])), ((6, 12, 78, 372), 1, 0, None),
            ((2, 2, 2, 2, 8, 8), 1, 1, None), ((9, 9, 2, 2, 2, 2), 1, 1, None), ((9, 2, 2, 2, 2, 2), 1, 1, (((1, 2),), [0])),
        ]:
            check_named(self, mended, names, [sums, keys, wrong], expected)

    def test_a_wrong_sum_at_each_index(self):
        for ledger, keys, wrong in [
            (((2, 3),), 1, 1), (((-TOP, TOP),), 1, 1), (A, 2, 1), (((1, 1), (2, -1)), 2, 1), (((-1, 5),), 2, 1),
            (((-3, 1), (4, 2), (5, -1)), 3, 1), ((), 1, 1), ((), 2, 1),
        ]:
            number = 2 * keys * (2 * wrong + 1)
            for more in (0, 3):
                sums = plain_sums(ledger, number + more)
                for at in range(number + more):
                    for by in (1, -1, 10 ** 40, -sums[at] if sums[at] else 7):
                        changed_sums = sums[:at] + (sums[at] + by,) + sums[at + 1:]
                        self.assertEqual(mended(changed_sums, keys=keys, wrong=wrong), (ledger, [at]))
                        self.assertIsNone(mended(changed_sums, keys=keys, wrong=0))

    def test_several_wrong_sums(self):
        ledger = ((-2, 3), (7, -1))
        sums = plain_sums(ledger, 20)
        for places in itertools.chain(itertools.combinations(range(20), 2), itertools.combinations(range(20), 3)):
            row = tuple(number + (j + 1 if j in places else 0) for j, number in enumerate(sums))
            expected = (ledger, list(places)) if len(places) <= 2 else None
            self.assertEqual(mended(row, keys=2, wrong=2), expected)

    def test_all_small_sums(self):
        # By trying all ledgers of one key near 0: a ledger that is found is right, and none is missed.
        near = [()] + [((key, amount),) for key in range(-4, 5) for amount in range(-9, 10) if key and amount]
        near = [(ledger, plain_sums(ledger, 6)) for ledger in near]
        for sums in itertools.product((0, 1, -1, 2), repeat=6):
            right = []
            for ledger, row in near:
                places = [j for j in range(6) if row[j] != sums[j]]
                if len(places) <= 1:
                    right.append((ledger, places))
            self.assertLessEqual(len(right), 1)
            self.assertEqual(mended(sums, keys=1, wrong=1), right[0] if right else None)

    def test_a_ledger_with_the_key_0_is_none(self):
        self.assertIsNone(mended((5, 0, 0, 0), keys=2, wrong=0))
        self.assertIsNone(mended(plain_sums(((0, 2), (3, 1)), 4), keys=2, wrong=0))
        # The key 0 makes the first sum alone wrong.
        self.assertEqual(mended(plain_sums(((0, 2), (3, 1)), 12), keys=2, wrong=1), (((3, 1),), [0]))

    def test_amounts_that_would_be_fractions(self):
        # Behind a wrong start the sums go on like those of an amount 1 / 2 or 1 / 4 at the key 2.
        self.assertIsNone(mended((0, 1, 2, 4, 8, 16), keys=1, wrong=1))
        self.assertIsNone(mended((7, 7, 1, 2, 4, 8, 16, 32, 64, 128), keys=1, wrong=2))
        self.assertEqual(mended((7, 7, 4, 8, 16, 32, 64, 128, 256, 512), keys=1, wrong=2), (((2, 1),), [0, 1]))

    def test_at_the_limits(self):
        sums = sums_of(TWENTY, 40)
        self.assertEqual(mended(sums, keys=20, wrong=0), (TWENTY, []))
        self.assertIsNone(mended(sums[:17] + (sums[17] + 1,) + sums[18:], keys=20, wrong=0))
        for keys, wrong in ((6, 1), (4, 2), (3, 2), (2, 4), (1, 9), (1, 0), (20, 0), (10, 0)):
            self.assertIsNone(mended(WIDE, keys=keys, wrong=wrong))
            ledger = tuple(sorted(TWENTY[:keys]))
            row = list(sums_of(ledger, 40))
            places = sorted((11 * k + 3) % 40 for k in range(wrong))
            for at in places:
                row[at] += WIDE[at]
            self.assertEqual(mended(tuple(row), keys=keys, wrong=wrong), (ledger, places))
            free = next(at for at in range(40) if at not in places)
            row[free] -= 1
            self.assertIsNone(mended(tuple(row), keys=keys, wrong=wrong))

    def test_new_lists(self):
        first = mended((3, 6, 12, 7, 48, 96), keys=1, wrong=1)
        first[1].append(9)
        self.assertEqual(mended((3, 6, 12, 7, 48, 96), keys=1, wrong=1), (((2, 3),), [3]))

    def test_errors(self):
        check_wrong(self, mended, [(1, 2), 1, 0], [
            (InvalidSums, NOT_SUMS), (InvalidNumber, others(NOT_INTEGERS, 1)),
            (InvalidNumber, others(NOT_INTEGERS, 0))])
        for number, keys, wrong in [
            (1, 1, 0), (5, 1, 1), (3, 2, 0), (11, 2, 1), (39, 20, 0), (40, 21, 0), (40, 7, 1), (40, 1, 10),
            (40, TOP, 0), (40, 1, TOP), (40, TOP, TOP),
        ]:
            assert_error(self, TooFewSums, mended, (0,) * number, keys=keys, wrong=wrong)
            assert_error(self, InvalidNumber, mended, (0,) * number, keys=keys, wrong=-1)
            assert_error(self, InvalidNumber, mended, (0,) * number, keys=0, wrong=wrong)
            assert_error(self, InvalidSums, mended, [0] * number, keys=keys, wrong=wrong)
        for number, keys, wrong in [(2, 1, 0), (6, 1, 1), (4, 2, 0), (12, 2, 1), (40, 20, 0), (36, 6, 1), (38, 1, 9)]:
            self.assertEqual(call(mended, [(0,) * number, keys, wrong]), ((), []))

    def test_keys_and_wrong_are_passed_by_name(self):
        with self.assertRaises(TypeError):
            mended((1, 2), 1, 0)


if __name__ == "__main__":
    unittest.main()
