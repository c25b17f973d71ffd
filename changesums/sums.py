"""Sums of ledgers: what they are, and how they change when the ledgers change."""

from math import comb

from changesums.errors import InvalidRows, InvalidSums, OtherLength
from changesums.integers import check_amount, check_key, check_number, check_stretch, is_an_integer
from changesums.ledgers import check_ledger, less


def is_sums(value):
    """Return whether any value is a non-empty tuple of integers."""
    return isinstance(value, tuple) and len(value) > 0 and all([is_an_integer(number) for number in value])


def check_sums(value):
    """Raise InvalidSums for any value that is not sums."""
    if not is_sums(value):
        raise InvalidSums()


def check_two(one, other):
    """Raise InvalidSums if one of two values is not sums, and then OtherLength if their lengths are unlike."""
    check_sums(one)
    check_sums(other)
    if len(one) != len(other):
        raise OtherLength()


def check_rows(value):
    """Raise InvalidRows for any value that is not a non-empty list of sums of one length."""
    if not isinstance(value, list) or len(value) == 0 or not all([is_sums(row) for row in value]):
        raise InvalidRows()
    if any([len(row) != len(value[0]) for row in value]):
        raise InvalidRows()


def first_sums(pairs, number):
    """Return the first sums of a checked ledger; of a row of changes, too, where an amount may be 0."""
    result = []
    keys = [key for key, amount in pairs]
    terms = [amount for key, amount in pairs]
    for _ in range(number):
        result.append(sum(terms))
        terms = [term * key for term, key in zip(terms, keys)]
    return tuple(result)


def first_powers(base, number):
    """Return the powers of an integer with the exponents from 0 to number - 1."""
    return first_sums(((base, 1),), number)


def multiplied_sums(one, other):
    """Return the sums of the product of two ledgers by their checked sums."""
    return tuple([
        sum([comb(j, i) * one[i] * other[j - i] for i in range(j + 1)])
        for j in range(len(one))])


def first_apart(ledger):
    """Return the index of the first sum that is not 0 of a checked ledger, None for ()."""
    if ledger == ():
        return None
    index = 0
    keys = [key for key, amount in ledger]
    terms = [amount for key, amount in ledger]
    # The first powers of different keys are independent: a sum is found before there are more sums than keys.
    while sum(terms) == 0:
        index = index + 1
        terms = [term * key for term, key in zip(terms, keys)]
    return index


def sums_of(ledger, number):
    """Return the first sums of a ledger, so many of them."""
    check_ledger(ledger)
    check_number(number, 1)
    return first_sums(ledger, number)


def with_change(sums, key, by):
    """Return the sums after the amount at a key is changed by a number."""
    check_sums(sums)
    check_key(key)
    check_amount(by)
    return tuple([number + change for number, change in zip(sums, first_sums(((key, by),), len(sums)))])


def sums_added(one, other):
    """Return the sums of the sum of two ledgers."""
    check_two(one, other)
    return tuple([number + change for number, change in zip(one, other)])


def sums_less(one, other):
    """Return the sums of the difference of two ledgers."""
    check_two(one, other)
    return tuple([number - change for number, change in zip(one, other)])


def sums_scaled(sums, by):
    """Return the sums of the ledger with all amounts times by."""
    check_sums(sums)
    check_amount(by)
    return tuple([number * by for number in sums])


def sums_product(one, other):
    """Return the sums of the product of two ledgers."""
    check_two(one, other)
    return multiplied_sums(one, other)


def sums_moved(sums, by):
    """Return the sums of the ledger with each key plus by."""
    check_sums(sums)
    check_key(by)
    # A moved ledger is its product with a ledger that has the amount 1 at the key by alone.
    return multiplied_sums(sums, first_powers(by, len(sums)))


def sums_stretched(sums, by):
    """Return the sums of the ledger with each key times by, which is not 0."""
    check_sums(sums)
    check_stretch(by)
    return tuple([number * factor for number, factor in zip(sums, first_powers(by, len(sums)))])


def sums_quotient(one, other):
    """Return the sums whose product with other is one, None if there are none or other begins with 0."""
    check_two(one, other)
    if other[0] == 0:
        return None
    result = []
    for j, number in enumerate(one):
        rest = number - sum([comb(j, i) * result[i] * other[j - i] for i in range(j)])
        if rest % other[0] != 0:
            return None
        result.append(rest // other[0])
    return tuple(result)


def parting(one, other):
    """Return the least index at which the sums of two ledgers differ, None if the ledgers are equal."""
    return first_apart(less(one, other))


def blind(ledger):
    """Return the number of the first sums that are 0, None for ()."""
    check_ledger(ledger)
    return first_apart(ledger)


def sign_changes(ledger):
    """Return the number of neighbouring amounts of which one is above and one below 0."""
    check_ledger(ledger)
    signs = [amount > 0 for key, amount in ledger]
    return len([1 for one, other in zip(signs, signs[1:]) if one != other])
