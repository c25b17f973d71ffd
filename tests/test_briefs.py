"""Points 1 to 3 and 16 to 18: briefs and spans."""

import itertools
import math
import unittest

from changesums.briefs import brief, cleared, in_span, is_made, least_blind, on_keys
from changesums.errors import InvalidKey, InvalidKeys, InvalidLedger, InvalidNumber, InvalidSums, InvalidWidth
from changesums.ledgers import added, is_ledger, less, moved, product
from changesums.sums import blind, sums_less, sums_of
from support import (
    NOT_INTEGERS, NOT_KEYS, NOT_LEDGERS, NOT_SUMS, assert_error, check_named, check_wrong, ledger_from, others,
    plain_sums, small_ledgers, solved)

TOP = 10 ** 15 - 1
A = ((-1, 3), (5, 3))
LEDGERS = small_ledgers()
SMALL_SUMS = [row for length in (1, 2, 3) for row in itertools.product(range(-3, 4), repeat=length)]
FORTY = tuple((-TOP + 9 * k * k, (-1) ** k * (TOP - k)) for k in range(40))
WIDE = tuple((-1) ** (j // 3) * (10 ** 900 - 1 - 10 ** (20 * j)) for j in range(40))


def plain_ledger(sums, keys):
    """Return the ledger with the sums on keys, at most as many as the sums, by linear equations."""
    found = solved([[key ** j for key in keys] for j in range(len(sums))], sums)
    if found is None or any(number.denominator != 1 for number in found):
        return None
    return ledger_from({key: int(number) for key, number in zip(keys, found)})


class Briefs(unittest.TestCase):
    """Point 16."""

    def test_brief(self):
        for sums, expected in [
            (plain_sums(((7, 1),), 3), ((0, 15), (1, -35), (2, 21))), ((0,), ()), ((0, 0, 0), ()), ((5,), ((0, 5),)),
            ((-5,), ((0, -5),)), ((5, 2), ((0, 3), (1, 2))), ((0, 0, 1), None), ((0, 0, 2), ((0, 1), (1, -2), (2, 1))),
            ((0, 1, 0), None), ((0, 1, 1), ((0, -1), (1, 1))), ((1, 0, 0, 0), ((0, 1),)), ((0, 0, 0, 3), None),
            ((0, 0, 0, 6), ((0, -1), (1, 3), (2, -3), (3, 1))), ((0, 0, 1, 3), None),
        ]:
            check_named(self, brief, ["sums"], [sums], expected)
            check_named(self, is_made, ["sums"], [sums], expected is not None)

    def test_all_small_sums(self):
        for sums in SMALL_SUMS:
            expected = plain_ledger(sums, range(len(sums)))
            self.assertEqual(brief(sums), expected)
            self.assertIs(is_made(sums), expected is not None)

    def test_sums_of_ledgers(self):
        # Also sums of ledgers with keys below 0 and with many more keys than sums are made.
        for ledger in LEDGERS:
            for number in range(1, 7):
                sums = plain_sums(ledger, number)
                self.assertIs(is_made(sums), True)
                found = brief(sums)
                self.assertTrue(is_ledger(found))
                self.assertEqual(plain_sums(found, number), sums)
                self.assertTrue(all(0 <= key < number for key, _ in found))

    def test_the_same_sums_exactly_if_the_same_brief(self):
        some = LEDGERS[::3]
        for number in (1, 2, 3):
            for one, other in itertools.product(some, repeat=2):
                same = plain_sums(one, number) == plain_sums(other, number)
                self.assertEqual(brief(plain_sums(one, number)) == brief(plain_sums(other, number)), same)

    def test_at_the_limits(self):
        sums = sums_of(FORTY, 40)
        self.assertEqual(sums_of(brief(sums), 40), sums)
        self.assertIs(is_made(sums), True)
        self.assertIs(is_made(sums[:-1] + (sums[-1] + 1,)), False)
        self.assertIsNone(brief(WIDE))
        factor = math.factorial(39)
        wide = tuple(number * factor for number in WIDE)
        self.assertEqual(sums_of(brief(wide), 40), wide)

    def test_errors(self):
        for function in (is_made, brief):
            check_wrong(self, function, [(1, 2)], [(InvalidSums, NOT_SUMS)])


class Spans(unittest.TestCase):
    """Point 17."""

    def test_in_span(self):
        for sums, low, width, expected in [
            ((1, 7, 49), 6, 3, ((7, 1),)), ((1, 7, 49), 7, 1, ((7, 1),)), ((1, 7, 49), 6, 1, None),
            ((1, 7, 49), 8, 3, ((8, 3), (9, -3), (10, 1))), ((1, 7, 50), 6, 2, None), ((0, 0), 5, 1, ()),
            ((0, 0, 0), -TOP, 3, ()), ((5,), 9, 1, ((9, 5),)), ((0,), 9, 1, ()), ((2, -3), -2, 2, ((-2, 1), (-1, 1))),
            ((0, 0, 1), 0, 3, None), ((0, 0, 1), 4, 3, None), ((3, 0, 0), -1, 3, ((0, 3),)), ((3, 0, 0), 0, 1, ((0, 3),)),
            ((1, TOP), TOP, 1, ((TOP, 1),)), ((1, -TOP, TOP ** 2), -TOP - 1, 3, ((-TOP, 1),)),
        ]:
            check_named(self, in_span, ["sums", "low", "width"], [sums, low, width], expected)

    def test_all_small_sums(self):
        for sums in SMALL_SUMS:
            for low in (-2, 0, 1):
                for width in range(1, len(sums) + 1):
                    self.assertEqual(in_span(sums, low, width), plain_ledger(sums, range(low, low + width)))

    def test_ledgers_in_spans(self):
        for ledger in LEDGERS:
            for low, width in ((-2, 6), (-3, 7), (0, 4), (1, 3)):
                sums = plain_sums(ledger, 7)
                expected = ledger if all(low <= key < low + width for key, _ in ledger) else None
                self.assertEqual(in_span(sums, low, width), expected)

    def test_on_keys(self):
        for sums, keys, expected in [
            ((2, 10, 58), (3, 7), ((3, 1), (7, 1))), ((2, 10, 58), (3, 6), None), ((2, 10, 58), (3,), None),
            ((2, 10, 58), (-5, 3, 7), ((3, 1), (7, 1))), ((0, 0), (), ()), ((0,), (), ()), ((1,), (), None),
            ((0, 0, 1), (), None), ((0, 0), (4, 9), ()), ((6, 12), (-1, 5), ((-1, 3), (5, 3))), ((1, 0), (0, 2), ((0, 1),)),
            ((1, 1), (0, 2), None), ((5,), (0,), ((0, 5),)), ((5,), (-9,), ((-9, 5),)), ((5, 0, 0), (0,), ((0, 5),)),
            ((5, 0, 1), (0,), None), ((2, 0), (-TOP, TOP), ((-TOP, 1), (TOP, 1))), ((1, 0), (-TOP, TOP), None),
        ]:
            check_named(self, on_keys, ["sums", "keys"], [sums, keys], expected)

    def test_on_all_small_keys(self):
        rows = [keys for many in range(4) for keys in itertools.combinations((-2, -1, 0, 3), many)]
        for sums in SMALL_SUMS:
            for keys in rows:
                if len(keys) <= len(sums):
                    self.assertEqual(on_keys(sums, keys), plain_ledger(sums, keys))

    def test_at_the_limits(self):
        sums = sums_of(FORTY, 40)
        keys = tuple(key for key, _ in FORTY)
        self.assertEqual(on_keys(sums, keys), FORTY)
        self.assertIsNone(on_keys(sums, keys[:-1]))
        self.assertIsNone(on_keys(sums[:-1] + (sums[-1] + 1,), keys))
        self.assertIsNone(on_keys(WIDE, keys))
        near = tuple((TOP - 39 + k, amount) for k, (_, amount) in enumerate(FORTY))
        self.assertEqual(in_span(sums_of(near, 40), TOP - 39, 40), near)
        self.assertEqual(in_span(sums_of(near[:7], 40), TOP - 39, 7), near[:7])
        self.assertIsNone(in_span(WIDE, -TOP, 40))
        self.assertEqual(in_span(WIDE[:1], -TOP, 1), ((-TOP, WIDE[0]),))

    def test_errors(self):
        for sums in ((1, 2), (5,), WIDE):
            check_wrong(self, in_span, [sums, 0, 1], [
                (InvalidSums, NOT_SUMS), (InvalidKey, NOT_INTEGERS),
                (InvalidWidth, others(NOT_INTEGERS, 1) + [len(sums) + 1, TOP])])
        check_wrong(self, on_keys, [(1, 2, 3), (5,)], [(InvalidSums, NOT_SUMS), (InvalidKeys, NOT_KEYS)])
        for sums, keys in [((1,), (1, 2)), ((1, 2), (1, 2, 3)), ((0, 0), (-1, 0, 1, 2)), (WIDE, tuple(range(41)))]:
            assert_error(self, InvalidKeys, on_keys, sums, keys)
        self.assertEqual(on_keys((1, 2), (1, 2)), ((2, 1),))


class BlindLedgers(unittest.TestCase):
    """Point 18."""

    def test_least_blind(self):
        for number, low, expected in [
            (0, 0, ((0, 1),)), (0, -7, ((-7, 1),)), (1, 0, ((0, -1), (1, 1))), (2, -1, ((-1, 1), (0, -2), (1, 1))),
            (3, 5, ((5, -1), (6, 3), (7, -3), (8, 1))), (1, TOP, ((TOP, -1), (TOP + 1, 1))),
            (4, -TOP, ((-TOP, 1), (1 - TOP, -4), (2 - TOP, 6), (3 - TOP, -4), (4 - TOP, 1))),
        ]:
            check_named(self, least_blind, ["number", "low"], [number, low], expected)

    def test_least_blind_is_what_it_has_to_be(self):
        for number in range(41):
            ledger = least_blind(number, -3)
            self.assertTrue(is_ledger(ledger))
            self.assertEqual(plain_sums(ledger, number), (0,) * number)
            self.assertEqual(ledger[-1], (number - 3, 1))
            self.assertEqual([key for key, _ in ledger], list(range(-3, number - 2)))
            self.assertEqual(blind(ledger), number)

    def test_cleared(self):
        for ledger, expected in [
            ((), ()), (A, A), (((4, -2),), ((4, -2),)), (((0, 1), (1, -1)), ((0, -1),)), (((0, -1), (1, 1)), ((0, 1),)),
            (((0, 1), (1, -1), (2, -1), (3, 1)), ((0, 1), (1, 1))), (((0, 1), (3, -1)), ((0, -1), (1, -1), (2, -1))),
            (((-TOP, -2), (2 - TOP, 2)), ((-TOP, 2), (1 - TOP, 2))), (((5, 3), (6, -6), (7, 3)), ((5, 3),)),
            (((0, 1), (1, -1), (400, -1), (401, 1)), tuple((k, 1) for k in range(400))),
            (((-1, 2), (399, -2)), tuple((k, -2) for k in range(-1, 399))),
        ]:
            check_named(self, cleared, ["ledger"], [ledger], expected)

    def test_the_product_is_the_ledger(self):
        more = [product(one, least_blind(number, -4)) for one in LEDGERS[::4] for number in range(5)]
        for ledger in LEDGERS + more:
            if ledger:
                found = cleared(ledger)
                self.assertTrue(is_ledger(found))
                self.assertEqual(product(found, least_blind(blind(ledger), 0)), ledger)

    def test_every_blind_ledger_is_a_product(self):
        for one, other in itertools.product(LEDGERS[::3], repeat=2):
            rest = less(one, other)
            if rest and sums_less(plain_sums(one, 1), plain_sums(other, 1)) == (0,):
                self.assertEqual(product(cleared(rest), least_blind(blind(rest), 0)), rest)

    def test_at_the_limits(self):
        sixty = tuple((k * 6, TOP - k) for k in range(60))
        self.assertEqual(cleared(sixty), sixty)
        # 60 keys that differ by 400 at most, the sum of which is 0.
        sixty = added(tuple((k * 6, TOP - k) for k in range(59)), ((400, -sum(TOP - k for k in range(59))),))
        self.assertEqual(product(cleared(sixty), least_blind(1, 0)), sixty)
        self.assertEqual(cleared(least_blind(40, TOP)), ((TOP, 1),))
        self.assertEqual(cleared(moved(least_blind(59, 0), 7)), ((7, 1),))
        wide = product(least_blind(40, 0), ((0, 1), (360, -1)))
        self.assertEqual(blind(wide), 41)
        self.assertEqual(cleared(wide), tuple((k, -1) for k in range(360)))

    def test_errors(self):
        check_wrong(self, least_blind, [0, 0], [(InvalidNumber, others(NOT_INTEGERS, 0)), (InvalidKey, NOT_INTEGERS)])
        check_wrong(self, cleared, [A], [(InvalidLedger, NOT_LEDGERS)])


if __name__ == "__main__":
    unittest.main()
