"""Points 1 to 3 and 26 to 28: counts."""

import itertools
import math
import unittest
from fractions import Fraction

from changesums.counts import cover, half_cover, needed_count, rival, runs, sure_count
from changesums.errors import InvalidLedger, InvalidNumber, InvalidSums, NotACount
from changesums.ledgers import is_ledger
from changesums.polynomials import value_at
from support import (
    NOT_INTEGERS, NOT_LEDGERS, NOT_SUMS, assert_error, check_named, check_new_lists, check_wrong, ledger_from, others,
    plain_sums, table_of)

TOP = 10 ** 15 - 1
KEY_SETS = [keys for many in range(7) for keys in itertools.combinations(range(-2, 6), many)]
COUNTS = [tuple((key, 1 + (k * 5 + len(keys)) % 4) for k, key in enumerate(keys)) for keys in KEY_SETS]
BELOW = [((0, -1),), ((0, 1), (1, -1)), ((-3, -2), (4, 1)), ((0, 1), (1, 2), (5, -1)), ((0, 2), (2, -1), (3, 5))]
TWELVE = tuple((-TOP + 10 ** 13 * k * k, TOP - k) for k in range(12))
SIDE = tuple((TOP - 11 + k, k + 1) for k in range(12))


def plain_runs(keys):
    """Return the runs of some keys: all longest rows of neighbours."""
    return [(first, length) for first in keys for length in range(1, len(keys) + 1)
            if first - 1 not in keys and first + length not in keys
            and all(first + k in keys for k in range(length))]


def plain_half(keys):
    return sum((length + 1) // 2 for _, length in plain_runs(keys))


def plain_rival(ledger, number):
    """Return what point 28 says, by its words, with fractions."""
    keys = [key for key, _ in ledger]
    marked = [key for first, length in plain_runs(keys) for key in range(first, first + length, 2)]
    if number > 2 * len(marked):
        return None
    row = [marked[0] - 1]
    for key in marked:
        row += [key, key + 1]
    places = row[:number + 1]
    parts = [1 / Fraction(math.prod(place - other for other in places if other != place)) for place in places]
    bottom = math.lcm(*[part.denominator for part in parts])
    numbers = [int(part * bottom) for part in parts]
    shared = math.gcd(*numbers)
    if numbers[0] < 0:
        shared = -shared
    apart = {place: number // shared for place, number in zip(places, numbers)}
    t = 1
    while True:
        table = {key: t * amount for key, amount in ledger}
        for place, by in apart.items():
            table[place] = table.get(place, 0) + by
        if min(table.values()) >= 0:
            return t, ledger_from(table)
        t += 1


class Covers(unittest.TestCase):
    """Point 26."""

    CASES = [
        ((), [], 0, (1,)),
        (((7, 4),), [(7, 1)], 1, (49, -14, 1)),
        (((2, 1), (3, 1)), [(2, 2)], 1, (6, -5, 1)),
        (((2, 5), (3, 1), (7, 4)), [(2, 2), (7, 1)], 2, (294, -329, 125, -19, 1)),
        (((0, -1), (1, 5), (2, -3)), [(0, 3)], 2, (0, -4, 8, -5, 1)),
        (((-1, 1), (1, 1)), [(-1, 1), (1, 1)], 2, (1, 0, -2, 0, 1)),
        (((-TOP, 1), (TOP, -TOP)), [(-TOP, 1), (TOP, 1)], 2, (TOP ** 4, 0, -2 * TOP ** 2, 0, 1)),
        (((TOP, 1), (TOP + 1, 2)), [(TOP, 2)], 1, (TOP * (TOP + 1), -2 * TOP - 1, 1)),
    ]

    def test_cases(self):
        for ledger, found, half, polynomial in self.CASES:
            check_named(self, runs, ["ledger"], [ledger], found)
            check_named(self, half_cover, ["ledger"], [ledger], half)
            check_named(self, cover, ["ledger"], [ledger], polynomial)

    def test_all_small_sets_of_keys(self):
        for ledger in COUNTS:
            keys = [key for key, _ in ledger]
            self.assertEqual(runs(ledger), plain_runs(keys))
            half = half_cover(ledger)
            self.assertEqual(half, plain_half(keys))
            polynomial = cover(ledger)
            self.assertEqual(len(polynomial), 2 * half + 1)
            self.assertEqual(polynomial[-1], 1)
            for place in range(-6, 10):
                value = value_at(polynomial, place)
                self.assertEqual(value == 0, place in keys)
                self.assertGreaterEqual(value, 0)

    def test_amounts_below_zero_are_allowed(self):
        for ledger in BELOW:
            count = tuple((key, abs(amount)) for key, amount in ledger)
            self.assertEqual(runs(ledger), runs(count))
            self.assertEqual(half_cover(ledger), half_cover(count))
            self.assertEqual(cover(ledger), cover(count))

    def test_at_the_limits(self):
        self.assertEqual(half_cover(TWELVE), 12)
        self.assertEqual(runs(SIDE), [(TOP - 11, 12)])
        self.assertEqual(half_cover(SIDE), 6)
        self.assertEqual(len(cover(SIDE)), 13)
        for key, _ in TWELVE:
            self.assertEqual(value_at(cover(TWELVE), key), 0)
            self.assertGreater(value_at(cover(TWELVE), key + 1), 0)
        sixty = tuple((2 * k, 1) for k in range(60))
        self.assertEqual(half_cover(sixty), 60)
        self.assertEqual(len(runs(sixty)), 60)

    def test_a_new_list_each_time(self):
        check_new_lists(self, runs, [((2, 5), (3, 1), (7, 4))])
        check_new_lists(self, runs, [()])

    def test_wrong_inputs(self):
        for function in (runs, half_cover, cover):
            check_wrong(self, function, [((1, 2),)], [(InvalidLedger, NOT_LEDGERS)])


class SureCounts(unittest.TestCase):
    """Point 27."""

    def test_cases(self):
        for sums, ledger in [
                ((2, 14), None), ((2, 14, 98), ((7, 2),)), ((0,), ()), ((0, 0), ()), ((5,), None), ((5, 0), None),
                ((5, 0, 0), ((0, 5),)), ((-5, 0, 0), None), ((1, 2, 4, 9), None), ((2, 14, 99), None),
                ((2, 5, 13, 35), ((2, 1), (3, 1))), ((2, 6, 20, 72), None), ((2, 6, 20, 72, 272), ((2, 1), (4, 1))),
                ((0, 1, 1, 1), None), ((0, -1, -1, -1), None)]:
            check_named(self, sure_count, ["sums"], [sums], ledger)

    def test_the_border(self):
        # One number below the least one that is enough, and the least one.
        for ledger in COUNTS:
            half = plain_half([key for key, _ in ledger])
            for number in range(max(1, 2 * len(ledger)), 2 * len(ledger) + 3):
                found = sure_count(plain_sums(ledger, number))
                self.assertEqual(found, ledger if number > 2 * half else None)

    def test_a_sure_count_is_the_only_one(self):
        known = {}
        for amounts in itertools.product(range(4), repeat=5):
            ledger = ledger_from(dict(enumerate(amounts)))
            known.setdefault(plain_sums(ledger, 4), []).append(ledger)
        for sums, ledgers in known.items():
            for number in (1, 2, 3, 4):
                found = sure_count(sums[:number])
                if found is not None:
                    for other, same in known.items():
                        if other[:number] == sums[:number]:
                            self.assertEqual(same, [found])

    def test_needed_count(self):
        for ledger, number in [
                ((), 1), (((7, 2),), 3), (((7, 2), (8, 1)), 3), (((7, 2), (8, 1), (9, 4)), 5), (((7, 2), (9, 1)), 5),
                (((-TOP, 1), (TOP, TOP)), 5), (TWELVE, 25), (SIDE, 13)]:
            check_named(self, needed_count, ["ledger"], [ledger], number)
        for ledger in COUNTS:
            number = needed_count(ledger)
            self.assertIsNone(rival(ledger, number))
            if number > 1:
                self.assertIsNotNone(rival(ledger, number - 1))

    def test_at_the_limits(self):
        self.assertEqual(sure_count(plain_sums(SIDE, 24)), SIDE)
        self.assertIsNone(sure_count(plain_sums(TWELVE, 24)))
        self.assertEqual(sure_count(plain_sums(TWELVE[:11], 23)), TWELVE[:11])
        self.assertIsNone(sure_count(plain_sums(TWELVE[:11], 22)))

    def test_wrong_inputs(self):
        check_wrong(self, sure_count, [(2, 14)], [(InvalidSums, NOT_SUMS)])
        check_wrong(self, needed_count, [((1, 2),)], [(InvalidLedger, NOT_LEDGERS)])
        for ledger in BELOW:
            assert_error(self, NotACount, needed_count, ledger)


class Rivals(unittest.TestCase):
    """Point 28."""

    def test_cases(self):
        for ledger, number, found in [
                ((), 1, None), ((), 40, None), (((7, 1),), 1, (1, ((6, 1),))), (((7, 1),), 2, (2, ((6, 1), (8, 1)))),
                (((7, 1),), 3, None), (((7, 2),), 1, (1, ((6, 1), (7, 1)))), (((7, 2),), 2, (1, ((6, 1), (8, 1)))),
                (((7, 2),), 3, None),
                (((2, 1), (3, 1)), 2, (2, ((1, 1), (3, 3)))), (((2, 1), (3, 1)), 3, None),
                (((0, 1), (1, 1), (2, 1)), 4, (4, ((-1, 1), (1, 10), (3, 1)))),
                (((0, 3), (5, 1)), 3, (8, ((-1, 10), (1, 15), (5, 7))))]:
            check_named(self, rival, ["ledger", "number"], [ledger, number], found)

    def test_by_the_words_of_the_point(self):
        for ledger in COUNTS:
            half = half_cover(ledger)
            for number in range(1, 2 * half + 3):
                found = rival(ledger, number)
                self.assertEqual(found, plain_rival(ledger, number))
                self.assertEqual(found is None, number > 2 * half)
                if found is not None:
                    t, other = found
                    self.assertTrue(is_ledger(other))
                    self.assertTrue(all(amount > 0 for _, amount in other))
                    same = tuple((key, t * amount) for key, amount in ledger)
                    self.assertNotEqual(other, same)
                    self.assertEqual(plain_sums(other, number), plain_sums(same, number))

    def test_at_the_limits(self):
        for ledger in (TWELVE, SIDE):
            half = half_cover(ledger)
            for number in (1, 2, 11, half, 2 * half - 1, 2 * half):
                t, other = rival(ledger, number)
                same = tuple((key, t * amount) for key, amount in ledger)
                self.assertNotEqual(other, same)
                self.assertTrue(all(amount > 0 for _, amount in other))
                self.assertEqual(plain_sums(other, number), plain_sums(same, number))
                less = table_of(other)
                table = {key: (t - 1) * amount - t * amount + less.get(key, 0) for key, amount in ledger}
                self.assertTrue(t == 1 or min(table.values()) < 0)
            self.assertIsNone(rival(ledger, 2 * half + 1))

    def test_wrong_inputs(self):
        check_wrong(self, rival, [((7, 1),), 2], [(InvalidLedger, NOT_LEDGERS), (InvalidNumber, others(NOT_INTEGERS, 1))])
        for ledger in BELOW:
            assert_error(self, NotACount, rival, ledger, 1)
            assert_error(self, NotACount, rival, ledger, 40)
            assert_error(self, InvalidNumber, rival, ledger, 0)
            assert_error(self, InvalidLedger, rival, ledger[::-1] + ledger, 0)


if __name__ == "__main__":
    unittest.main()
