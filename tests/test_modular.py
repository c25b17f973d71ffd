"""Points 1 to 3, 31 and 32: ledgers and sums modulo a prime."""

import itertools
import random
import unittest

from changesums.errors import InvalidLedger, InvalidNumber, InvalidPrime, InvalidResidues, OtherLength
from changesums.ledgers import is_ledger
from changesums.modular import all_told, reduced, rule_length_modulo, sums_modulo, told_modulo
from support import (
    NOT_INTEGERS, NOT_LEDGERS, assert_error, check_named, check_wrong, ledger_from, others, plain_sums, small_ledgers)

TOP = 10 ** 15 - 1
A = ((-1, 3), (5, 3))
PRIMES = [2, 3, 5, 7, 11, 13, 17, 19, 23, 29, 31, 37, 41, 43, 47]
GREAT = [97, 101, 331, 487, 491, 499]
NOT_PRIMES = others(NOT_INTEGERS, 2) + [
    0, 1, -2, -3, -7, 4, 6, 8, 9, 15, 21, 25, 49, 121, 169, 289, 361, 461 * 463, 481, 493, 497, 498, 499 * 499, 501,
    10 ** 6, 999999 * 7, 2 ** 100, 10 ** 400, -499]
NOT_RESIDUES = [
    None, True, False, 0, 1, 1.5, "", "ab", b"", b"ab", (), [], [1], [1, 2], {}, {1: 2}, {1}, object(), tuple,
    range(1, 3), iter((1,)),
    (True,), (False,), (1, True), (True, 1), (1.0,), (1, 2.0), ("1",), (None,), (1, None), ((1,),), ([1],), (b"a",),
    (7,), (-1,), (1, 7), (1, 2, -1), (7, 1), (1, 100), (0,) * 8, (1, 2, 3, 4, 5, 6, 0, 1), (10 ** 400,),
]


def ledgers_modulo(prime, many):
    """Return all ledgers modulo a prime with at most so many keys."""
    found = []
    for size in range(many + 1):
        for keys in itertools.combinations(range(prime), size):
            for amounts in itertools.product(range(1, prime), repeat=size):
                found.append(tuple(zip(keys, amounts)))
    return found


def remainders(ledger, prime, number):
    return tuple(total % prime for total in plain_sums(ledger, number))


def plain_length(sums, prime):
    """Return the least length of a rule modulo a prime, by trying all rules."""
    for length in range(len(sums) + 1):
        for head in itertools.product(range(prime), repeat=length):
            rule = head + (1,)
            if all(sum(c * s for c, s in zip(rule, sums[j:])) % prime == 0 for j in range(len(sums) - length)):
                return length
    raise AssertionError(sums)


class Reduced(unittest.TestCase):
    """Point 31."""

    def test_cases(self):
        for ledger, prime, found in [
                (A, 7, ((5, 3), (6, 3))), (A, 2, ()), (A, 3, ()), (A, 5, ((0, 3), (4, 3))), ((), 2, ()),
                (((0, 7), (7, 14), (14, -7)), 7, ()), (((0, 1), (7, 1)), 7, ((0, 2),)), (((0, 1), (7, -1)), 7, ()),
                (((0, 1), (2, 1)), 2, ()), (((0, 3), (1, 4)), 2, ((0, 1),)), (((-7, 5), (7, 5)), 7, ((0, 3),)),
                (((-TOP, TOP), (TOP, -TOP)), 499, ledger_from({-TOP % 499: TOP % 499, TOP % 499: -TOP % 499})),
                (((498, -1), (499, 1000), (500, 499)), 499, ((0, 2), (498, 498)))]:
            check_named(self, reduced, ["ledger", "prime"], [ledger, prime], found)

    def test_small_ledgers(self):
        for prime in (2, 3, 5):
            for ledger in small_ledgers(keys=(-5, -1, 0, 2, 5), amounts=(-3, 0, 1, 5)):
                table = {}
                for key, amount in ledger:
                    table[key % prime] = table.get(key % prime, 0) + amount
                found = reduced(ledger, prime)
                self.assertEqual(found, ledger_from({key: amount % prime for key, amount in table.items()}))
                self.assertEqual(reduced(found, prime), found)

    def test_sums(self):
        self.assertEqual(sums_modulo(A, 7, 4), (6, 5, 1, 1))
        check_named(self, sums_modulo, ["ledger", "prime", "number"], [A, 7, 4], (6, 5, 1, 1))
        check_named(self, sums_modulo, ["ledger", "prime", "number"], [(), 2, 2], (0, 0))
        for prime in PRIMES + GREAT:
            for ledger in [A, (), ((0, 1),), ((prime, 1),), ((prime, prime),), ((-1, -1),), ((-TOP, TOP), (3, 4), (TOP, -5)),
                           ((0, 1), (prime, -1))]:
                for number in {1, 2, min(prime, 40), prime if prime < 50 else 3}:
                    sums = sums_modulo(ledger, prime, number)
                    self.assertEqual(sums, remainders(ledger, prime, number))
                    self.assertEqual(sums, sums_modulo(reduced(ledger, prime), prime, number))

    def test_wrong_inputs(self):
        check_wrong(self, reduced, [A, 7], [(InvalidLedger, NOT_LEDGERS), (InvalidPrime, NOT_PRIMES)])
        numbers = others(NOT_INTEGERS, 1) + [8, 9, 10 ** 15]
        check_wrong(self, sums_modulo, [A, 7, 4], [
            (InvalidLedger, NOT_LEDGERS), (InvalidPrime, NOT_PRIMES), (InvalidNumber, numbers)])
        for prime in PRIMES + GREAT:
            self.assertEqual(len(sums_modulo(A, prime, prime)), prime)
            assert_error(self, InvalidNumber, sums_modulo, A, prime, prime + 1)
            assert_error(self, InvalidNumber, sums_modulo, A, prime, 0)


class ToldModulo(unittest.TestCase):
    """Point 32."""

    def test_cases(self):
        for sums, prime, ledger in [
                ((6, 5, 1, 1), 7, ((5, 3), (6, 3))), ((1, 2, 4, 2), 7, None), ((0,), 2, ()), ((1,), 2, None),
                ((1, 0), 2, ((0, 1),)), ((1, 1), 2, ((1, 1),)), ((0, 1), 2, None), ((0, 0), 2, ()),
                ((2, 1, 2), 3, ((2, 2),)), ((2, 1, 1), 3, None), ((0, 0, 1), 3, None), ((498, 0), 499, ((0, 498),)),
                ((3, 0, 0, 0, 0), 5, ((0, 3),)), ((0, 1, 2, 3), 5, None), ((2, 0, 4, 0), 5, None), ((2, 0, 2, 0), 7, ((1, 1), (6, 1)))]:
            check_named(self, told_modulo, ["sums", "prime"], [sums, prime], ledger)

    def test_all_small_sums(self):
        for prime, number in [(2, 1), (2, 2), (3, 1), (3, 2), (3, 3), (5, 1), (5, 2), (5, 3), (5, 4), (5, 5), (7, 4)]:
            known = {remainders(ledger, prime, number): ledger for ledger in ledgers_modulo(prime, number // 2)}
            for sums in itertools.product(range(prime), repeat=number):
                self.assertEqual(told_modulo(sums, prime), known.get(sums))

    def test_rule_length(self):
        for sums, prime, length in [
                ((0,), 2, 0), ((1,), 2, 1), ((0, 1), 2, 2), ((1, 2, 4, 2), 7, 3), ((6, 5, 1, 1), 7, 2),
                ((0, 0, 0, 1), 5, 4), ((1, 0, 0, 1), 5, 3), ((0,) * 40, 499, 0), ((0,) * 39 + (1,), 499, 40)]:
            check_named(self, rule_length_modulo, ["sums", "prime"], [sums, prime], length)
        for prime, number in [(2, 2), (3, 3), (5, 4), (5, 5)]:
            for sums in itertools.product(range(prime), repeat=number):
                self.assertEqual(rule_length_modulo(sums, prime), plain_length(sums, prime))

    def test_at_the_limits(self):
        chosen = random.Random(5)
        for prime in PRIMES + GREAT:
            most = min(prime, 40)
            for many in {0, 1, most // 4, most // 2}:
                keys = sorted(chosen.sample(range(prime), many))
                ledger = tuple((key, chosen.randrange(1, prime)) for key in keys)
                for number in {max(1, 2 * many), max(1, 2 * many - 1), most}:
                    sums = remainders(ledger, prime, number)
                    if 2 * many <= number:
                        self.assertEqual(told_modulo(sums, prime), ledger)
                        self.assertEqual(rule_length_modulo(sums, prime), many)
                    else:
                        self.assertNotEqual(told_modulo(sums, prime), ledger)
        every = tuple((key, 1) for key in (0, 498))
        self.assertEqual(told_modulo(remainders(every, 499, 4), 499), every)

    def test_all_told(self):
        check_named(self, all_told, ["sums", "prime"], [(1, 0, 1), 3], ((1, 2), (2, 2)))
        for prime in (2, 3, 5):
            for sums in itertools.product(range(prime), repeat=prime):
                ledger = all_told(sums, prime)
                self.assertTrue(is_ledger(ledger))
                self.assertTrue(all(0 <= key < prime and 0 < amount < prime for key, amount in ledger))
                self.assertEqual(remainders(ledger, prime, prime), sums)
        chosen = random.Random(6)
        for prime in PRIMES[3:12]:
            for _ in range(5):
                ledger = ledger_from({key: chosen.randrange(prime) for key in range(prime)})
                self.assertEqual(all_told(remainders(ledger, prime, prime), prime), ledger)
            self.assertEqual(all_told((0,) * prime, prime), ())
            full = tuple((key, prime - 1) for key in range(prime))
            self.assertEqual(all_told(remainders(full, prime, prime), prime), full)

    def test_the_prime_is_checked_first(self):
        for function, good in [(told_modulo, (6, 5, 1, 1)), (rule_length_modulo, (6, 5, 1, 1)), (all_told, (1,) * 7)]:
            function(good, 7)
            for value in NOT_PRIMES:
                assert_error(self, InvalidPrime, function, good, value)
                assert_error(self, InvalidPrime, function, None, value)
                assert_error(self, InvalidPrime, function, sums=good, prime=value)
            for value in NOT_RESIDUES:
                assert_error(self, InvalidResidues, function, value, 7)
                assert_error(self, InvalidResidues, function, prime=7, sums=value)

    def test_as_many_sums_as_the_prime(self):
        for prime in (2, 3, 5, 7, 37):
            for function in (told_modulo, rule_length_modulo, all_told):
                function((1,) * prime, prime)
                assert_error(self, InvalidResidues, function, (1,) * (prime + 1), prime)
                assert_error(self, InvalidResidues, function, (prime,) * prime, prime)
            for fewer in range(1, prime):
                assert_error(self, OtherLength, all_told, (1,) * fewer, prime)
            assert_error(self, InvalidResidues, all_told, (prime,), prime)


if __name__ == "__main__":
    unittest.main()
