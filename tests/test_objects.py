"""Points 1 to 3 and 40 to 42: objects with operators."""

import itertools
import operator
import unittest

from changesums import ledgers, sums
from changesums.briefs import brief
from changesums.errors import (
    InvalidAmount, InvalidIndex, InvalidKey, InvalidLedger, InvalidNumber, InvalidStep, InvalidSums, NotALedger, NotMade,
    NotSums, OtherLength)
from changesums.objects import Ledger, Sums
from changesums.told import reason, told
from support import NOT_INTEGERS, NOT_LEDGERS, NOT_SUMS, assert_error, others, small_ledgers

TOP = 10 ** 15 - 1
A = ((-1, 3), (5, 3))
B = ((0, 1), (5, -3))
LEDGERS = small_ledgers(keys=(-2, 0, 3), amounts=(-1, 0, 2))
NOT_FROM_ZERO = others(NOT_INTEGERS, 0)
NO_FACTORS = [value for value in NOT_LEDGERS if isinstance(value, bool) or not isinstance(value, int)]


class LedgerObjects(unittest.TestCase):
    """Point 40."""

    def test_pairs(self):
        self.assertEqual(Ledger().pairs, ())
        for ledger in LEDGERS + [A, ((-TOP, TOP), (TOP, -TOP))]:
            self.assertEqual(Ledger(ledger).pairs, ledger)
            self.assertEqual(Ledger(pairs=ledger).pairs, ledger)
            self.assertEqual(len(Ledger(ledger)), len(ledger))
            self.assertEqual(abs(Ledger(ledger)), ledgers.weight(ledger))
            self.assertEqual((-Ledger(ledger)).pairs, ledgers.scaled(ledger, -1))
        for value in NOT_LEDGERS + [Ledger(), Ledger(A), Sums((1,))]:
            assert_error(self, InvalidLedger, Ledger, value)
            assert_error(self, InvalidLedger, Ledger, pairs=value)
        with self.assertRaises(AttributeError):
            Ledger(A).pairs = ()

    def test_items(self):
        a = Ledger(A)
        self.assertEqual([a[key] for key in (-1, 0, 5, 6, TOP)], [3, 0, 3, 0, 0])
        for value in NOT_INTEGERS + [slice(0, 1), a]:
            assert_error(self, InvalidKey, operator.getitem, a, value)
            assert_error(self, InvalidKey, operator.setitem, a, value, 5)
            assert_error(self, InvalidKey, operator.setitem, a, value, None)
            assert_error(self, InvalidAmount, operator.setitem, a, 5, value)
            self.assertEqual(a.pairs, A)
        for key, amount, pairs in [
                (5, 3, A), (0, 0, A), (7, 0, A), (0, 2, ((-1, 3), (0, 2), (5, 3))), (5, -1, ((-1, 3), (0, 2), (5, -1))),
                (-1, 0, ((0, 2), (5, -1))), (-TOP, TOP, ((-TOP, TOP), (0, 2), (5, -1)))]:
            a[key] = amount
            self.assertEqual(a.pairs, pairs)
            self.assertEqual(a[key], amount)
            self.assertEqual(len(a), len(pairs))

    def test_contains(self):
        a = Ledger(((0, 2), (1, 1), (5, -1)))
        self.assertEqual([key for key in range(-3, 9) if key in a], [0, 1, 5])
        for value in NOT_INTEGERS + [a, A, (0, 2), (5, -1)]:
            self.assertIs(value in a, False)
            self.assertIs(value in Ledger(), False)
        self.assertIs(5 in a, True)
        self.assertIs(5 not in a, False)

    def test_not_iterated(self):
        for value in (Ledger(A), Ledger(), Sums((1, 2))):
            with self.assertRaises(TypeError):
                list(value)

    def test_equal(self):
        for one, other in itertools.product(LEDGERS[::2], repeat=2):
            self.assertIs(Ledger(one) == Ledger(other), one == other)
            self.assertIs(Ledger(one) != Ledger(other), one != other)
        for value in [A, list(A), None, 0, "a", Sums((1,)), Sums((6, 12)), object()]:
            self.assertIs(Ledger(A) == value, False)
            self.assertIs(value == Ledger(A), False)
            self.assertIs(Ledger(A) != value, True)
        self.assertIs(Ledger() == (), False)


class LedgerOperators(unittest.TestCase):
    """Point 41."""

    BINARY = [(operator.add, operator.iadd, ledgers.added), (operator.sub, operator.isub, ledgers.less),
              (operator.mul, operator.imul, ledgers.product)]
    SHIFTS = [(operator.lshift, operator.ilshift, 1), (operator.rshift, operator.irshift, -1)]

    def test_two_ledgers(self):
        for plain, in_place, function in self.BINARY:
            for one, other in itertools.product(LEDGERS[::2] + [A, B], repeat=2):
                expected = function(one, other)
                a, b = Ledger(one), Ledger(other)
                for found in (plain(a, b), plain(a, other), plain(one, b)):
                    self.assertIs(type(found), Ledger)
                    self.assertEqual(found.pairs, expected)
                    self.assertIsNot(found, a)
                    self.assertIsNot(found, b)
                self.assertEqual((a.pairs, b.pairs), (one, other))
                for operand in (b, other):
                    a, kept = Ledger(one), Ledger(one)
                    same = a
                    a = in_place(a, operand)
                    self.assertIs(a, same)
                    self.assertEqual(a.pairs, expected)
                    self.assertEqual(kept.pairs, one)
                self.assertEqual(b.pairs, other)

    def test_the_same_object_on_both_sides(self):
        for plain, in_place, function in self.BINARY:
            a = Ledger(A)
            self.assertEqual(plain(a, a).pairs, function(A, A))
            self.assertEqual(a.pairs, A)
            b = a
            a = in_place(a, a)
            self.assertIs(a, b)
            self.assertEqual(b.pairs, function(A, A))

    def test_a_second_name_and_an_equal_object(self):
        a, equal = Ledger(A), Ledger(A)
        b = a
        a += B
        self.assertEqual(b.pairs, ledgers.added(A, B))
        a -= ((0, 1),)
        a *= 2
        a <<= 3
        a >>= 1
        a *= Ledger(((0, 1), (1, 1)))
        a[100] = 7
        pairs = ledgers.added(ledgers.moved(ledgers.scaled(ledgers.added(A, ((5, -3),)), 2), 2))
        pairs = ledgers.added(ledgers.product(pairs, ((0, 1), (1, 1))), ((100, 7),))
        self.assertIs(a, b)
        self.assertEqual(b.pairs, pairs)
        self.assertEqual(equal.pairs, A)

    def test_in_place_operators_without_a_method_of_their_own(self):
        for change, pairs in [(operator.ifloordiv, ledgers.cut(A, 3)), (operator.imod, ledgers.folded(A, 3)),
                              (operator.ipow, ledgers.power(A, 3))]:
            a = Ledger(A)
            found = change(a, 3)
            self.assertEqual(found.pairs, pairs)
            self.assertEqual(a.pairs, A)

    def test_integers(self):
        for k in (-TOP, -3, -1, 0, 1, 2, TOP):
            for ledger in LEDGERS[::3] + [A]:
                a = Ledger(ledger)
                self.assertEqual((a * k).pairs, ledgers.scaled(ledger, k))
                self.assertEqual((k * a).pairs, ledgers.scaled(ledger, k))
                self.assertEqual((a << k).pairs, ledgers.moved(ledger, k))
                self.assertEqual((a >> k).pairs, ledgers.moved(ledger, -k))
                if k > 0:
                    self.assertEqual((a // k).pairs, ledgers.cut(ledger, k))
                    self.assertEqual((a % k).pairs, ledgers.folded(ledger, k))
                self.assertEqual(a.pairs, ledger)
                for change, expected in [(operator.imul, a * k), (operator.ilshift, a << k), (operator.irshift, a >> k)]:
                    b = Ledger(ledger)
                    self.assertIs(change(b, k), b)
                    self.assertEqual(b, expected)

    def test_powers(self):
        for ledger in LEDGERS + [A, B]:
            a = Ledger(ledger)
            for k in range(5):
                self.assertEqual((a ** k).pairs, ledgers.power(ledger, k))
            self.assertEqual(a.pairs, ledger)
        self.assertEqual((Ledger() ** 0).pairs, ((0, 1),))
        for value in NOT_FROM_ZERO + [A, Ledger(A)]:
            assert_error(self, InvalidNumber, operator.pow, Ledger(A), value)

    def test_no_operands(self):
        for plain, in_place, _ in self.BINARY:
            values = NO_FACTORS if plain is operator.mul else NOT_LEDGERS + [5, -1]
            for value in values + [Sums((1, 2))]:
                with self.subTest(operator=plain.__name__, value=value):
                    a = Ledger(A)
                    assert_error(self, NotALedger, plain, a, value)
                    assert_error(self, NotALedger, in_place, a, value)
                    self.assertEqual(a.pairs, A)

    def test_no_operands_in_front(self):
        for value in [True, None, "ab", b"", [], [(1, 2)], (1, 2), ((1, 0),), ((2, 1), (1, 1)), {}, {1: 2}, 1.5, object()]:
            for plain, _, _ in self.BINARY:
                with self.subTest(operator=plain.__name__, value=value):
                    assert_error(self, NotALedger, plain, value, Ledger(A))
        for value in (0, 5, -1):
            assert_error(self, NotALedger, operator.add, value, Ledger(A))
            assert_error(self, NotALedger, operator.sub, value, Ledger(A))

    def test_wrong_integers(self):
        a = Ledger(A)
        for plain, in_place, _ in self.SHIFTS:
            for value in NOT_INTEGERS + [A, Ledger(), Sums((1,))]:
                assert_error(self, InvalidKey, plain, a, value)
                assert_error(self, InvalidKey, in_place, a, value)
                self.assertEqual(a.pairs, A)
        for plain in (operator.floordiv, operator.mod):
            for value in others(NOT_INTEGERS, 1) + [A, Ledger(), Sums((1,))]:
                assert_error(self, InvalidStep, plain, a, value)
        self.assertEqual(a.pairs, A)

    def test_at_the_limits(self):
        twenty = tuple((key * 10 ** 13, TOP - key) for key in range(20))
        self.assertEqual((Ledger(twenty) * twenty).pairs, ledgers.product(twenty, twenty))
        six = twenty[:6]
        self.assertEqual((Ledger(six) ** 4).pairs, ledgers.power(six, 4))
        self.assertEqual((Ledger(((0, 1), (1, 1))) ** 40).pairs, ledgers.power(((0, 1), (1, 1)), 40))


class SumsObjects(unittest.TestCase):
    """Point 42."""

    NUMBERS = [(0,), (5,), (1, 2), (2, 0), (6, 12, 78, 372), (1, 1, 1, 1), (0, 0, 1, -7), (2, 4, 6, 9)]

    def test_numbers(self):
        for numbers in self.NUMBERS:
            a = Sums(numbers)
            self.assertEqual(a.numbers, numbers)
            self.assertEqual(Sums(numbers=numbers), a)
            self.assertEqual(len(a), len(numbers))
            self.assertEqual([a[j] for j in range(len(a))], list(numbers))
            self.assertEqual((a.told(), a.reason(), a.brief()), (told(numbers), reason(numbers), brief(numbers)))
            for value in others(NOT_INTEGERS, 0) + [len(numbers), len(numbers) + 1, TOP, slice(0, 1)]:
                assert_error(self, InvalidIndex, operator.getitem, a, value)
            with self.assertRaises(AttributeError):
                a.numbers = (1,)
            with self.assertRaises(TypeError):
                a[0] = 1
        for value in NOT_SUMS + [Sums((1,)), Ledger(A), [Sums((1,))]]:
            assert_error(self, InvalidSums, Sums, value)
            assert_error(self, InvalidSums, Sums, numbers=value)
        with self.assertRaises(TypeError):
            Sums()

    def test_of(self):
        for ledger in LEDGERS + [A]:
            for number in (1, 2, 7):
                for found in (Sums.of(ledger, number), Sums.of(number=number, ledger=ledger)):
                    self.assertIs(type(found), Sums)
                    self.assertEqual(found.numbers, sums.sums_of(ledger, number))
        for value in NOT_LEDGERS + [Ledger(A), Sums((1,))]:
            assert_error(self, InvalidLedger, Sums.of, value, 2)
            assert_error(self, InvalidLedger, Sums.of, value, 0)
        for value in others(NOT_INTEGERS, 1):
            assert_error(self, InvalidNumber, Sums.of, A, value)

    def test_equal(self):
        for one, other in itertools.product(self.NUMBERS, repeat=2):
            self.assertIs(Sums(one) == Sums(other), one == other)
            self.assertIs(Sums(one) != Sums(other), one != other)
        for value in [(1, 2), [1, 2], None, 1, Ledger(((1, 2),)), object()]:
            self.assertIs(Sums((1, 2)) == value, False)
            self.assertIs(value == Sums((1, 2)), False)

    def test_operators(self):
        for one, other in itertools.product(self.NUMBERS, repeat=2):
            if len(one) != len(other):
                continue
            a, b = Sums(one), Sums(other)
            for plain, function in [(operator.add, sums.sums_added), (operator.sub, sums.sums_less),
                                    (operator.mul, sums.sums_product)]:
                found = plain(a, b)
                self.assertIs(type(found), Sums)
                self.assertEqual(found.numbers, function(one, other))
            quotient = sums.sums_quotient(one, other)
            if quotient is None:
                assert_error(self, NotMade, operator.floordiv, a, b)
            else:
                self.assertEqual((a // b).numbers, quotient)
            self.assertEqual((a.numbers, b.numbers), (one, other))
        a = Sums((2, 3))
        self.assertEqual([(a + a).numbers, (a - a).numbers, (a * a).numbers, (a // a).numbers],
                         [(4, 6), (0, 0), (4, 12), (1, 0)])

    def test_integers(self):
        for numbers in self.NUMBERS:
            a = Sums(numbers)
            for k in (-TOP, -1, 0, 1, 3, TOP):
                self.assertEqual((a * k).numbers, sums.sums_scaled(numbers, k))
                self.assertEqual((k * a).numbers, sums.sums_scaled(numbers, k))
                self.assertEqual((a << k).numbers, sums.sums_moved(numbers, k))
                for found in (a(k, 5), a(by=5, key=k)):
                    self.assertIs(type(found), Sums)
                    self.assertEqual(found.numbers, sums.with_change(numbers, k, 5))
            self.assertEqual(a(3, 0), a)
            self.assertEqual(a.numbers, numbers)

    def test_the_object_never_changes(self):
        a = Sums((2, 4))
        b = a
        a += Sums((1, 1))
        self.assertEqual((a.numbers, b.numbers), ((3, 5), (2, 4)))
        a -= b
        a *= 3
        a <<= 1
        a //= Sums((1, 0))
        self.assertEqual((a.numbers, b.numbers), ((3, 6), (2, 4)))

    def test_no_operands(self):
        a = Sums((2, 4))
        values = [None, True, False, 1.5, "ab", b"", (), (1, 2), (2, 4), [], [1], {}, object(), A, Ledger(A), Ledger()]
        for value in values:
            for plain in (operator.add, operator.sub, operator.mul, operator.floordiv):
                with self.subTest(operator=plain.__name__, value=value):
                    assert_error(self, NotSums, plain, a, value)
        for value in [None, True, False, 1.5, "ab", b"", (), (1, 2), [], [1], {}, object(), A]:
            assert_error(self, NotSums, operator.mul, value, a)
        for plain in (operator.add, operator.sub, operator.floordiv):
            for value in (0, 1, -5):
                assert_error(self, NotSums, plain, a, value)
        self.assertEqual(a.numbers, (2, 4))

    def test_a_ledger_object_and_an_object_of_sums(self):
        for ledger in (Ledger(), Ledger(A)):
            for numbers in (Sums((1,)), Sums((1, 2))):
                for plain in (operator.add, operator.sub, operator.mul):
                    assert_error(self, NotALedger, plain, ledger, numbers)
                    assert_error(self, NotSums, plain, numbers, ledger)
                assert_error(self, NotSums, operator.floordiv, numbers, ledger)
                for change in (operator.iadd, operator.isub, operator.imul):
                    assert_error(self, NotALedger, change, ledger, numbers)
                    assert_error(self, NotSums, change, numbers, ledger)

    def test_other_lengths(self):
        for plain in (operator.add, operator.sub, operator.mul, operator.floordiv):
            for one, other in [((1,), (1, 2)), ((1, 2), (1,)), ((1, 2), (0, 0, 0))]:
                assert_error(self, OtherLength, plain, Sums(one), Sums(other))
        assert_error(self, NotMade, operator.floordiv, Sums((1, 2)), Sums((0, 2)))
        assert_error(self, NotMade, operator.floordiv, Sums((1, 2)), Sums((2, 0)))

    def test_wrong_keys_and_amounts(self):
        a = Sums((2, 4))
        for value in NOT_INTEGERS + [a, Ledger(A)]:
            assert_error(self, InvalidKey, operator.lshift, a, value)
            assert_error(self, InvalidKey, a, value, 1)
            assert_error(self, InvalidKey, a, value, None)
            assert_error(self, InvalidAmount, a, 1, value)
            assert_error(self, InvalidAmount, a, by=value, key=1)
        self.assertEqual(a.numbers, (2, 4))


if __name__ == "__main__":
    unittest.main()
