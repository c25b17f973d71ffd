"""Points 1 to 3, 29 and 30: ledgers in boxes."""

import itertools
import time
import unittest

from changesums.boxes import (
    count_in_box, in_box, lightest_in_box, needed_in_box, nth_in_box, safe_width, twins)
from changesums.errors import (
    InvalidAmount, InvalidIndex, InvalidKey, InvalidLedger, InvalidNumber, InvalidSums, InvalidWidth, OutOfSpan)
from changesums.ledgers import is_ledger, less, weight
from support import (
    NOT_INTEGERS, NOT_LEDGERS, NOT_SUMS, as_list, assert_error, check_named, check_star, check_wrong, ledger_from,
    others, plain_sums)

TOP = 10 ** 15 - 1
BOX = ["low", "width", "most"]
NOT_NUMBERS = others(NOT_INTEGERS, 1)
NOT_FROM_ZERO = others(NOT_INTEGERS, 0)
BOX_ERRORS = [(InvalidKey, NOT_INTEGERS), (InvalidWidth, NOT_NUMBERS), (InvalidAmount, NOT_FROM_ZERO)]
BOXES = [(0, 1, 0), (0, 1, 3), (5, 1, 1), (0, 2, 2), (-3, 2, 4), (0, 3, 0), (-1, 3, 1), (0, 3, 2), (2, 4, 1), (0, 4, 2),
         (-2, 5, 1), (7, 6, 1)]
ledgers_of = as_list(in_box)


def plain_box(low, width, most):
    """Return all ledgers of a box in the order of point 29."""
    keys = range(low, low + width)
    return [ledger_from(dict(zip(keys, amounts)))
            for amounts in itertools.product(range(-most, most + 1), repeat=width)]


def by_sums(low, width, most, number):
    """Return the dict of the lists of the ledgers of a box that have given sums."""
    table = {}
    for ledger in plain_box(low, width, most):
        table.setdefault(plain_sums(ledger, number), []).append(ledger)
    return table


def amounts_of(ledger, low, width):
    table = dict(ledger)
    return tuple(table.get(key, 0) for key in range(low, low + width))


def plain_twins(number, width, most):
    """Return the first pair of twins, by the words of point 30."""
    pairs = []
    for same in by_sums(0, width, most, number).values():
        for one, other in itertools.permutations(same, 2):
            apart = less(one, other)
            order = (weight(apart), amounts_of(apart, 0, width), amounts_of(one, 0, width))
            pairs.append((order, (one, other)))
    return min(pairs)[1] if pairs else None


class InBoxes(unittest.TestCase):
    """Point 29, and lightest_in_box of point 30."""

    def test_small_boxes(self):
        for low, width, most in BOXES:
            box = {"low": low, "width": width, "most": most}
            for number in range(1, width + 3):
                for sums, same in by_sums(low, width, most, number).items():
                    self.assertEqual(count_in_box(sums, **box), len(same))
                    self.assertEqual(list(in_box(sums, **box)), same)
                    self.assertEqual(lightest_in_box(sums, **box), min(same, key=weight))
                    for index in {0, len(same) // 2, len(same) - 1}:
                        self.assertEqual(nth_in_box(sums, index, **box), same[index])
                    for index in (len(same), len(same) + 1, -1):
                        assert_error(self, InvalidIndex, nth_in_box, sums, index, **box)

    def test_each_index(self):
        box = {"low": -1, "width": 5, "most": 2}
        for sums in [(0,), (3,), (2, 1), (0, 0), (1, 1, 5)]:
            same = by_sums(-1, 5, 2, len(sums))[sums]
            self.assertEqual(list(in_box(sums, **box)), same)
            self.assertEqual([nth_in_box(sums, index, **box) for index in range(len(same))], same)

    def test_sums_that_no_ledger_of_the_box_has(self):
        for sums, low, width, most in [
                ((4,), 0, 3, 1), ((-4,), 0, 3, 1), ((1,), 0, 3, 0), ((0, 1), 0, 1, 4), ((1, 5), 6, 1, 4), ((1, 2), 7, 2, 4),
                ((1, 2, 5), 0, 3, 4), ((0, 0, 1), 0, 4, 4), ((0, 0, 0, 1), 0, 3, 4), ((1, 2, 4, 9), 0, 3, 4),
                ((10 ** 899, 5), 0, 3, 4), ((0, 10 ** 899), 0, 8, 4), ((0,) * 11 + (10 ** 899,), TOP, 8, 4),
                ((5, 0, 0, 0), 0, 2, 4), ((5, 0), 0, 2, 4)]:
            box = {"low": low, "width": width, "most": most}
            self.assertEqual(count_in_box(sums, **box), 0)
            self.assertEqual(list(in_box(sums, **box)), [])
            self.assertIsNone(lightest_in_box(sums, **box))
            for index in (0, 1, -1):
                assert_error(self, InvalidIndex, nth_in_box, sums, index, **box)

    def test_great_sums_are_not_taken_for_small_ones(self):
        # Sums far out of a box, of which each makes up for the one before it in a number with several parts.
        for low, width, most in [(0, 3, 1), (0, 1, 2), (0, 8, 4), (-2, 5, 0)]:
            for bits in range(1, 40):
                for sign in (-1, 1):
                    great = sign * 2 ** bits
                    for sums in [(great, -sign), (-great, sign, 0), (0, great, -sign), (great, 0), (0, great)]:
                        expected = 0
                        if width * most < 9:
                            expected = len(by_sums(low, width, most, len(sums)).get(sums, []))
                        elif bits < 9:
                            continue
                        self.assertEqual(count_in_box(sums, low=low, width=width, most=most), expected)

    def test_names(self):
        values = [(2, 2), 0, 3, 2]
        ledgers = [((1, 2),), ((0, 1), (2, 1)), ((0, 2), (1, -2), (2, 2))]
        check_named(self, count_in_box, ["sums"] + BOX, values, 3)
        check_named(self, ledgers_of, ["sums"] + BOX, values, ledgers)
        check_named(self, lightest_in_box, ["sums"] + BOX, values, ((1, 2),))
        check_named(self, nth_in_box, ["sums", "index"] + BOX, [(2, 2), 1, 0, 3, 2], ((0, 1), (2, 1)))
        for function in (count_in_box, in_box, lightest_in_box):
            check_star(self, function, values)
        check_star(self, nth_in_box, [(2, 2), 1, 0, 3, 2])

    def test_the_lightest_of_several(self):
        # Of the ledgers of the least weight the first one in the order of the box.
        for sums, low, width, most, ledger in [
                ((0,), 0, 8, 4, ()), ((1,), 0, 8, 4, ((7, 1),)), ((-1,), 0, 8, 4, ((0, -1),)),
                ((2,), 3, 3, 2, ((5, 2),)), ((-2,), 3, 3, 1, ((3, -1), (4, -1))), ((9,), 0, 8, 4, ((5, 1), (6, 4), (7, 4))),
                ((0, 1), 0, 4, 2, ((0, -1), (1, 1))), ((0, -1), 0, 4, 2, ((2, 1), (3, -1))),
                ((3, 3), 0, 3, 3, ((1, 3),)), ((3, 3), 0, 3, 2, ((0, 1), (1, 1), (2, 1)))]:
            self.assertEqual(lightest_in_box(sums, low=low, width=width, most=most), ledger)

    def test_great_boxes(self):
        box = {"low": TOP - 7, "width": 8, "most": 4}
        ledger = tuple((TOP - 7 + k, (-1) ** k * (4 - k // 2)) for k in range(8))
        started = time.perf_counter()
        for number in range(1, 13):
            sums = plain_sums(ledger, number)
            many = count_in_box(sums, **box)
            self.assertGreaterEqual(many, 1)
            for index in (0, many // 2, many - 1):
                found = nth_in_box(sums, index, **box)
                self.assertTrue(is_ledger(found))
                self.assertTrue(all(TOP - 7 <= key <= TOP and abs(amount) <= 4 for key, amount in found))
                self.assertEqual(plain_sums(found, number), sums)
            assert_error(self, InvalidIndex, nth_in_box, sums, many, **box)
            light = lightest_in_box(sums, **box)
            self.assertEqual(plain_sums(light, number), sums)
            self.assertLessEqual(weight(light), weight(ledger))
            first = next(in_box(sums, **box))
            self.assertEqual(first, nth_in_box(sums, 0, **box))
            if many <= 2000:
                ledgers = list(in_box(sums, **box))
                self.assertEqual(len(ledgers), many)
                self.assertIn(ledger, ledgers)
                self.assertEqual(weight(light), min(map(weight, ledgers)))
        # All the ledgers of this box could not be gone through in this time.
        self.assertLess(time.perf_counter() - started, 10)

    def test_great_counts(self):
        # The numbers of ways to write a sum, by adding one key at a time.
        table = {0: 1}
        for _ in range(8):
            table = {total: sum(table.get(total - amount, 0) for amount in range(-4, 5)) for total in range(-40, 41)}
        for total in (0, 1, -7, 31, 32, 33):
            self.assertEqual(count_in_box((total,), low=-5, width=8, most=4), table[total])
        many = table[0]
        self.assertGreater(many, 2 * 10 ** 6)
        last = nth_in_box((0,), many - 1, low=-5, width=8, most=4)
        self.assertEqual(last, tuple((key, 4 if key < -1 else -4) for key in range(-5, 3)))
        self.assertEqual(nth_in_box((0,), 0, low=-5, width=8, most=4), tuple((key, -amount) for key, amount in last))
        self.assertEqual(nth_in_box((0,), many // 2, low=-5, width=8, most=4), ())
        self.assertEqual(nth_in_box((0,), many // 2 + 1, low=-5, width=8, most=4), ((1, 1), (2, -1)))
        assert_error(self, InvalidIndex, nth_in_box, (0,), many, low=-5, width=8, most=4)

    def test_one_ledger_at_a_time(self):
        # A box with very many such ledgers gives the first ones at once.
        given = in_box((0,), low=0, width=8, most=4)
        first = [next(given) for _ in range(3)]
        head = tuple((key, -4) for key in range(4))
        self.assertEqual(first, [head + tuple((key, 4) for key in range(4, 8))] + [
            tuple((key, -4) for key in range(3)) + ((3, -3),) + tail for tail in [
                ((4, 3), (5, 4), (6, 4), (7, 4)), ((4, 4), (5, 3), (6, 4), (7, 4))]])

    def test_wrong_inputs(self):
        wrong = [(InvalidSums, NOT_SUMS)] + BOX_ERRORS
        for function in (count_in_box, ledgers_of, lightest_in_box):
            check_wrong(self, function, [(2, 2), 0, 3, 2], wrong)

    def test_the_index_is_checked_last(self):
        good = {"low": 0, "width": 3, "most": 2}
        for value in NOT_FROM_ZERO:
            assert_error(self, InvalidIndex, nth_in_box, (2, 2), value, **good)
            assert_error(self, InvalidSums, nth_in_box, [2, 2], value, low=None, width=0, most=-1)
            assert_error(self, InvalidKey, nth_in_box, (2, 2), value, low=None, width=0, most=-1)
            assert_error(self, InvalidWidth, nth_in_box, (2, 2), value, low=0, width=0, most=-1)
            assert_error(self, InvalidAmount, nth_in_box, (2, 2), value, low=0, width=3, most=-1)
        for error, values in [(InvalidSums, NOT_SUMS)]:
            for value in values:
                assert_error(self, error, nth_in_box, value, 0, **good)
        for name, (error, values) in zip(BOX, BOX_ERRORS):
            for value in values:
                assert_error(self, error, nth_in_box, (2, 2), 0, **{**good, name: value})


class Twins(unittest.TestCase):
    """twins and safe_width of point 30."""

    def test_small_boxes(self):
        for width, most in [(1, 0), (1, 2), (2, 1), (2, 2), (3, 0), (3, 1), (3, 2), (4, 1), (5, 1)]:
            for number in range(1, width + 3):
                expected = plain_twins(number, width, most)
                self.assertEqual(twins(number, width=width, most=most), expected)

    def test_cases(self):
        for number, width, most, pair in [
                (2, 4, 1, (((0, -1), (3, -1)), ((1, -1), (2, -1)))), (1, 2, 1, (((0, -1),), ((1, -1),))),
                (2, 3, 1, (((0, -1), (1, 1), (2, -1)), ((1, -1),))), (1, 1, 2, None), (1, 8, 0, None), (8, 8, 2, None),
                (7, 8, 2, None), (12, 8, 2, None)]:
            check_named(self, twins, ["number", "width", "most"], [number, width, most], pair)
        check_star(self, twins, [2, 4, 1])

    def test_great_boxes(self):
        for number in range(1, 8):
            for most in (1, 2):
                pair = twins(number, width=8, most=most)
                if pair is None:
                    self.assertGreaterEqual(number, 4)
                    continue
                one, other = pair
                self.assertNotEqual(one, other)
                self.assertEqual(plain_sums(one, number), plain_sums(other, number))
                apart = less(one, other)
                for ledger in pair:
                    self.assertTrue(is_ledger(ledger))
                    self.assertTrue(all(0 <= key < 8 and abs(amount) <= most for key, amount in ledger))
                blind = [each for each in ledgers_of((0,) * number, low=0, width=8, most=2 * most) if each != ()] \
                    if number > 2 else [apart]
                self.assertEqual(apart, min(blind, key=lambda each: (weight(each), amounts_of(each, 0, 8))))

    def test_safe_width(self):
        for number in range(1, 13):
            for most in range(3):
                widths = [width for width in range(1, 9) if twins(number, width=width, most=most) is None]
                self.assertEqual(widths, list(range(1, len(widths) + 1)))
                check_named(self, safe_width, ["number", "most"], [number, most], len(widths))
        self.assertEqual([safe_width(number, most=1) for number in range(1, 7)], [1, 2, 4, 7, 8, 8])
        self.assertEqual([safe_width(number, most=2) for number in range(1, 7)], [1, 2, 3, 5, 8, 8])
        self.assertEqual(safe_width(1, most=0), 8)
        check_star(self, safe_width, [2, 1])

    def test_wrong_inputs(self):
        number = (InvalidNumber, NOT_NUMBERS)
        check_wrong(self, twins, [2, 4, 1], [number] + BOX_ERRORS[1:])
        check_wrong(self, safe_width, [2, 1], [number, BOX_ERRORS[2]])


class NeededInBoxes(unittest.TestCase):
    """needed_in_box of point 30."""

    def test_small_boxes(self):
        for low, width, most in BOXES:
            tables = [by_sums(low, width, most, number) for number in range(1, width + 1)]
            for ledger in plain_box(low, width, most):
                number = 1
                while tables[number - 1][plain_sums(ledger, number)] != [ledger]:
                    number += 1
                self.assertEqual(needed_in_box(ledger, low=low, width=width, most=most), number)

    def test_cases(self):
        for ledger, low, width, most, number in [
                (((1, 2),), 0, 3, 2, 3), ((), 0, 1, 0, 1), ((), 5, 8, 0, 1), ((), 0, 1, 4, 1), ((), 0, 8, 4, 5),
                (((TOP, 4),), TOP, 1, 4, 1), (tuple((key, 4) for key in range(8)), 0, 8, 4, 1),
                (((0, 4),), 0, 2, 4, 2)]:
            check_named(self, needed_in_box, ["ledger"] + BOX, [ledger, low, width, most], number)
        check_star(self, needed_in_box, [((1, 2),), 0, 3, 2])

    def test_at_the_limits(self):
        box = {"low": -TOP, "width": 8, "most": 4}
        for amounts in [(4, -4, 4, -4, 4, -4, 4, -4), (1, 0, 0, 0, 0, 0, 0, 1), (-4, -4, 0, 0, 0, 0, 4, 4)]:
            ledger = ledger_from(dict(zip(range(-TOP, -TOP + 8), amounts)))
            number = needed_in_box(ledger, **box)
            self.assertEqual(count_in_box(plain_sums(ledger, number), **box), 1)
            self.assertTrue(number == 1 or count_in_box(plain_sums(ledger, number - 1), **box) > 1)

    def test_wrong_inputs(self):
        check_wrong(self, needed_in_box, [((1, 2),), 0, 3, 2], [(InvalidLedger, NOT_LEDGERS)] + BOX_ERRORS)
        for ledger in [((-1, 1),), ((3, 1),), ((1, 3),), ((1, -3),), ((0, 1), (3, 1)), ((-1, 1), (0, 1)),
                       ((0, 1), (2, 3)), ((0, -3), (2, 1)), ((TOP, 1),)]:
            assert_error(self, OutOfSpan, needed_in_box, ledger, low=0, width=3, most=2)
            assert_error(self, InvalidKey, needed_in_box, ledger, low="0", width=0, most=2)
            assert_error(self, InvalidWidth, needed_in_box, ledger, low=0, width=0, most=-1)
            assert_error(self, InvalidAmount, needed_in_box, ledger, low=0, width=3, most=-1)


if __name__ == "__main__":
    unittest.main()
