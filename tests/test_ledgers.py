"""Points 1 to 7: ledgers."""

import unittest

from changesums import ledgers
from changesums.errors import InvalidAmount, InvalidChanges, InvalidKey, InvalidLedger, InvalidNumber
from changesums.errors import InvalidStep, InvalidWidth
from changesums.ledgers import (
    added, amount_at, cut, folded, gathered, is_ledger, less, moved, part, power, product, scaled, stretched, weight,
    weighted, with_amount)
from support import (
    NOT_CHANGES, NOT_INTEGERS, NOT_LEDGERS, assert_error, check_named, check_wrong, ledger_from, others,
    small_ledgers, table_of)

TOP = 10 ** 15 - 1
A = ((-1, 3), (5, 3))
LEDGERS = small_ledgers()
GREAT = tuple((-TOP + 7 * k, (-1) ** k * (TOP - k)) for k in range(60))


class WhatALedgerIs(unittest.TestCase):
    """Point 4."""

    def test_ledgers(self):
        for value in [(), ((0, 1),), ((0, -1),), A, ((-TOP, TOP), (0, -TOP), (TOP, 1)), GREAT] + LEDGERS:
            self.assertIs(is_ledger(value), True)

    def test_no_ledgers(self):
        for value in NOT_LEDGERS:
            with self.subTest(value=value):
                self.assertIs(is_ledger(value), False)

    def test_every_made_ledger_is_one(self):
        for one in LEDGERS:
            for made in (added(one, A), less(one, A), product(one, A), moved(one, -3), stretched(one, -2),
                         folded(one, 2), cut(one, 2), part(one, 0, 2), scaled(one, 0), weighted(one, 1)):
                self.assertTrue(is_ledger(made))


class SingleAmounts(unittest.TestCase):
    """Point 5."""

    def test_gathered(self):
        for changes, expected in [
            ([], ()), ([(4, 0)], ()), ([(4, 1), (4, -1)], ()), ([(4, 1), (4, -1), (4, 3)], ((4, 3),)),
            ([(5, 2), (-1, 3), (5, 1)], A), ([(0, 1), (-7, -2), (9, 0), (3, 1)], ((-7, -2), (0, 1), (3, 1))),
            ([(TOP, TOP), (TOP, TOP), (-TOP, -TOP)], ((-TOP, -TOP), (TOP, 2 * TOP))),
            ([(7, 1)] * 400, ((7, 400),)),
            ([(k, 1) for k in range(200)] + [(k, -1) for k in range(1, 200)], ((0, 1),)),
        ]:
            with self.subTest(changes=changes[:5]):
                check_named(self, gathered, ["changes"], [changes], expected)

    def test_gathered_forgets_its_argument(self):
        changes = [(1, 2)]
        made = gathered(changes)
        changes.append((1, 5))
        changes[0] = (9, 9)
        self.assertEqual(made, ((1, 2),))

    def test_amount_at(self):
        for key, expected in [(-1, 3), (5, 3), (0, 0), (-2, 0), (6, 0), (TOP, 0)]:
            check_named(self, amount_at, ["ledger", "key"], [A, key], expected)
        self.assertEqual(amount_at((), 0), 0)
        self.assertEqual([amount_at(GREAT, key) for key, _ in GREAT], [amount for _, amount in GREAT])

    def test_with_amount(self):
        names = ["ledger", "key", "amount"]
        for key, amount, expected in [
            (5, 1, ((-1, 3), (5, 1))), (5, 0, ((-1, 3),)), (5, 3, A), (0, 7, ((-1, 3), (0, 7), (5, 3))), (0, 0, A),
            (-9, -1, ((-9, -1), (-1, 3), (5, 3))), (TOP, -TOP, ((-1, 3), (5, 3), (TOP, -TOP))), (-1, 0, ((5, 3),)),
        ]:
            check_named(self, with_amount, names, [A, key, amount], expected)
        self.assertEqual(with_amount((), 0, 0), ())
        self.assertEqual(with_amount((), -4, 2), ((-4, 2),))

    def test_weight(self):
        for ledger, expected in [((), 0), (A, 6), (((0, -4), (1, 3)), 7), (((-TOP, -TOP), (TOP, TOP)), 2 * TOP)]:
            check_named(self, weight, ["ledger"], [ledger], expected)

    def test_errors(self):
        check_wrong(self, gathered, [[(1, 2)]], [(InvalidChanges, NOT_CHANGES)])
        check_wrong(self, amount_at, [A, 5], [(InvalidLedger, NOT_LEDGERS), (InvalidKey, NOT_INTEGERS)])
        check_wrong(self, with_amount, [A, 5, 0], [
            (InvalidLedger, NOT_LEDGERS), (InvalidKey, NOT_INTEGERS), (InvalidAmount, NOT_INTEGERS)])
        check_wrong(self, weight, [A], [(InvalidLedger, NOT_LEDGERS)])


class Sums(unittest.TestCase):
    """Point 6."""

    def test_added(self):
        self.assertEqual(added(), ())
        self.assertEqual(added(()), ())
        self.assertEqual(added(A), A)
        self.assertEqual(added(A, ((5, -3),)), ((-1, 3),))
        self.assertEqual(added(A, A, A, ((-1, -9),), ((5, -9),)), ())
        self.assertEqual(added(*[((key, 1),) for key in range(10, -10, -1)]), tuple((k, 1) for k in range(-9, 11)))

    def test_added_and_less_at_each_key(self):
        for one in LEDGERS:
            for other in LEDGERS[::5]:
                first, second = table_of(one), table_of(other)
                keys = range(-3, 5)
                total = {key: first.get(key, 0) + second.get(key, 0) for key in keys}
                rest = {key: first.get(key, 0) - second.get(key, 0) for key in keys}
                self.assertEqual(added(one, other), ledger_from(total))
                self.assertEqual(less(one, other), ledger_from(rest))
                self.assertEqual(added(less(one, other), other), one)

    def test_less(self):
        names = ["one", "other"]
        for one, other, expected in [
            ((), (), ()), (A, A, ()), (A, (), A), ((), A, ((-1, -3), (5, -3))),
            (((0, 1),), A, ((-1, -3), (0, 1), (5, -3))),
        ]:
            check_named(self, less, names, [one, other], expected)
        self.assertEqual(less(GREAT, GREAT), ())

    def test_scaled(self):
        for by, expected in [(1, A), (-1, ((-1, -3), (5, -3))), (0, ()), (4, ((-1, 12), (5, 12)))]:
            check_named(self, scaled, ["ledger", "by"], [A, by], expected)
        self.assertEqual(scaled((), 5), ())
        self.assertEqual(scaled(((2, TOP),), -TOP), ((2, -TOP * TOP),))

    def test_product(self):
        names = ["one", "other"]
        for one, other, expected in [
            (A, ((0, 1), (2, -1)), ((-1, 3), (1, -3), (5, 3), (7, -3))), (A, (), ()), ((), A, ()), ((), (), ()),
            (A, ((0, 1),), A), (((0, 1), (1, 1)), ((0, 1), (1, -1)), ((0, 1), (2, -1))),
            (((-TOP, TOP),), ((TOP, TOP),), ((0, TOP * TOP),)),
        ]:
            check_named(self, product, names, [one, other], expected)

    def test_product_of_all_pairs(self):
        for one in LEDGERS:
            for other in LEDGERS[::5]:
                table = {}
                for key, amount in one:
                    for place, by in other:
                        table[key + place] = table.get(key + place, 0) + amount * by
                self.assertEqual(product(one, other), ledger_from(table))

    def test_product_at_the_limit(self):
        one = tuple((k * 10 ** 13, TOP - k) for k in range(20))
        made = product(one, GREAT[:20])
        self.assertEqual(weight(made), weight(one) * weight(GREAT[:20]))
        self.assertEqual(len(made), 400)

    def test_power(self):
        binomial = ((0, 1), (1, 1))
        for times, expected in [(0, ((0, 1),)), (1, binomial), (2, ((0, 1), (1, 2), (2, 1))),
                                (3, ((0, 1), (1, 3), (2, 3), (3, 1))), (4, ((0, 1), (1, 4), (2, 6), (3, 4), (4, 1)))]:
            check_named(self, power, ["ledger", "times"], [binomial, times], expected)
        self.assertEqual([power((), k) for k in (0, 1, 2)], [((0, 1),), (), ()])
        self.assertEqual([power(GREAT, k) for k in (0, 1)], [((0, 1),), GREAT])
        six = GREAT[:6]
        self.assertEqual(power(six, 4), product(product(six, six), product(six, six)))

    def test_weighted(self):
        ledger = ((-2, 3), (0, 4), (5, -1))
        for times, expected in [(0, ledger), (1, ((-2, -6), (5, -5))), (2, ((-2, 12), (5, -25))),
                                (3, ((-2, -24), (5, -125)))]:
            check_named(self, weighted, ["ledger", "times"], [ledger, times], expected)
        self.assertEqual([weighted(((0, 7),), k) for k in (0, 1, 40)], [((0, 7),), (), ()])
        self.assertEqual(weighted((), 3), ())
        self.assertEqual(weighted(GREAT, 40), tuple((key, amount * key ** 40) for key, amount in GREAT))

    def test_errors(self):
        two = [(InvalidLedger, NOT_LEDGERS), (InvalidLedger, NOT_LEDGERS)]
        for function in (less, product):
            check_wrong(self, function, [A, A], two)
        for value in NOT_LEDGERS:
            for arguments in ([value], [value, A], [A, value], [A, A, value, A]):
                assert_error(self, InvalidLedger, added, *arguments)
        check_wrong(self, scaled, [A, 0], [(InvalidLedger, NOT_LEDGERS), (InvalidAmount, NOT_INTEGERS)])
        for function in (power, weighted):
            check_wrong(self, function, [A, 0], [
                (InvalidLedger, NOT_LEDGERS), (InvalidNumber, others(NOT_INTEGERS, 0))])


class Keys(unittest.TestCase):
    """Point 7."""

    def test_moved(self):
        for by, expected in [
            (0, A), (2, ((1, 3), (7, 3))), (-6, ((-7, 3), (-1, 3))), (TOP, ((TOP - 1, 3), (TOP + 5, 3))),
        ]:
            check_named(self, moved, ["ledger", "by"], [A, by], expected)
        self.assertEqual(moved((), -TOP), ())

    def test_stretched(self):
        ledger = ((-1, 3), (0, 4), (5, -3))
        for by, expected in [(1, ledger), (-1, ((-5, -3), (0, 4), (1, 3))), (3, ((-3, 3), (0, 4), (15, -3))),
                             (-2, ((-10, -3), (0, 4), (2, 3)))]:
            check_named(self, stretched, ["ledger", "by"], [ledger, by], expected)
        self.assertEqual(stretched((), -1), ())
        self.assertEqual(stretched(((TOP, 1),), -TOP), ((-TOP * TOP, 1),))

    def test_folded(self):
        ledger = ((-4, 1), (-3, 2), (-1, 3), (0, -2), (5, 4))
        for modulus, expected in [
            (1, ((0, 8),)), (2, ((0, -1), (1, 9))), (3, ((2, 8),)), (4, ((0, -1), (1, 6), (3, 3))),
            (TOP, ((0, -2), (5, 4), (TOP - 4, 1), (TOP - 3, 2), (TOP - 1, 3))),
        ]:
            check_named(self, folded, ["ledger", "modulus"], [ledger, modulus], expected)
        self.assertEqual(folded((), 3), ())
        self.assertEqual(folded(((-1, 1),), 10), ((9, 1),))
        self.assertEqual(folded(((-3, 1), (7, -1)), 10), ())

    def test_cut(self):
        ledger = ((-4, 1), (-3, 2), (-1, 3), (0, -2), (5, 4))
        for step, expected in [
            (1, ledger), (2, ((-2, 3), (-1, 3), (0, -2), (2, 4))), (3, ((-2, 1), (-1, 5), (0, -2), (1, 4))),
            (TOP, ((-1, 6), (0, 2))),
        ]:
            check_named(self, cut, ["ledger", "step"], [ledger, step], expected)
        self.assertEqual(cut((), 3), ())
        self.assertEqual(cut(((-2, 5), (-1, -5)), 2), ())

    def test_folded_and_cut_name_each_key(self):
        for key in range(-12, 13):
            for by in range(1, 7):
                (rest, _), (whole, _) = folded(((key, 1),), by)[0], cut(((key, 1),), by)[0]
                self.assertEqual(whole * by + rest, key)
                self.assertIn(rest, range(by))

    def test_part(self):
        names = ["ledger", "low", "width"]
        for low, width, expected in [
            (-1, 7, A), (-1, 6, A[:1]), (0, 6, A[1:]), (5, 1, A[1:]), (5, 0, ()), (-1, 1, A[:1]), (-1, 0, ()),
            (0, 5, ()), (6, 100, ()), (-100, 99, ()), (-100, 100, A[:1]), (-TOP, 2 * TOP, A),
        ]:
            check_named(self, part, names, [A, low, width], expected)
        self.assertEqual(part((), 0, 5), ())

    def test_errors(self):
        check_wrong(self, moved, [A, 0], [(InvalidLedger, NOT_LEDGERS), (InvalidKey, NOT_INTEGERS)])
        check_wrong(self, stretched, [A, -1], [(InvalidLedger, NOT_LEDGERS), (InvalidStep, NOT_INTEGERS + [0])])
        for function in (folded, cut):
            check_wrong(self, function, [A, 1], [
                (InvalidLedger, NOT_LEDGERS), (InvalidStep, others(NOT_INTEGERS, 1))])
        check_wrong(self, part, [A, 0, 0], [
            (InvalidLedger, NOT_LEDGERS), (InvalidKey, NOT_INTEGERS), (InvalidWidth, others(NOT_INTEGERS, 0))])


class Limits(unittest.TestCase):
    """Point 2: arguments at the limits are answered, and going beyond them raises no error."""

    def test_sixty_great_keys(self):
        self.assertEqual(added(*[GREAT] * 20), scaled(GREAT, 20))
        self.assertEqual(moved(moved(GREAT, TOP), -TOP), GREAT)
        self.assertEqual(stretched(stretched(GREAT, -1), -1), GREAT)
        self.assertEqual(weight(GREAT), sum(TOP - k for k in range(60)))
        self.assertEqual(sum(amount for _, amount in folded(GREAT, 7)), sum(amount for _, amount in GREAT))
        self.assertEqual(part(GREAT, -TOP, 7 * 59 + 1), GREAT)

    def test_beyond(self):
        beyond = tuple((k, 10 ** 30) for k in range(500))
        self.assertTrue(ledgers.is_ledger(beyond))
        self.assertEqual(amount_at(beyond, 499), 10 ** 30)
        self.assertEqual(power(((1, 2),), 30), ((30, 2 ** 30),))


if __name__ == "__main__":
    unittest.main()
