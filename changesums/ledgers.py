"""Ledgers: finite tables of integer keys with integer amounts, and what can be made of them."""

from changesums.errors import InvalidChanges, InvalidLedger
from changesums.integers import (
    check_amount, check_key, check_number, check_step, check_stretch, check_width, is_an_integer, raised)


def is_change(value):
    """Return whether any value is a tuple of two integers."""
    return isinstance(value, tuple) and len(value) == 2 and is_an_integer(value[0]) and is_an_integer(value[1])


def is_ledger(value):
    """Return whether any value is a ledger."""
    if not isinstance(value, tuple) or not all([is_change(pair) for pair in value]):
        return False
    ascending = all([one[0] < other[0] for one, other in zip(value, value[1:])])
    return ascending and all([amount != 0 for key, amount in value])


def check_ledger(value):
    """Raise InvalidLedger for any value that is not a ledger."""
    if not is_ledger(value):
        raise InvalidLedger()


def check_changes(value):
    """Raise InvalidChanges for any value that is not a list of changes."""
    if not isinstance(value, list) or not all([is_change(change) for change in value]):
        raise InvalidChanges()


def summed(changes):
    """Return the ledger that a row of changes makes of ()."""
    amounts = {}
    for key, by in changes:
        amounts[key] = amounts.get(key, 0) + by
    return tuple([(key, amounts[key]) for key in sorted(amounts) if amounts[key] != 0])


def changed_in(amounts, key, by):
    """Change the amount at a key of a dict that has no amount 0, and return the new one."""
    amount = amounts.get(key, 0) + by
    if amount == 0:
        amounts.pop(key, None)
    else:
        amounts[key] = amount
    return amount


def gathered(changes):
    """Return the ledger that has at each key the sum of the numbers by which it is changed."""
    check_changes(changes)
    return summed(changes)


def amount_at(ledger, key):
    """Return the amount at a key, 0 if the ledger does not have it."""
    check_ledger(ledger)
    check_key(key)
    for place, amount in ledger:
        if place == key:
            return amount
    return 0


def with_amount(ledger, key, amount):
    """Return the ledger with this amount at the key, and the other amounts as before."""
    check_ledger(ledger)
    check_key(key)
    check_amount(amount)
    return summed([pair for pair in ledger if pair[0] != key] + [(key, amount)])


def weight(ledger):
    """Return the sum of the absolute amounts."""
    check_ledger(ledger)
    return sum([abs(amount) for key, amount in ledger])


def added(*ledgers):
    """Return the sum of any number of ledgers."""
    for ledger in ledgers:
        check_ledger(ledger)
    return summed([pair for ledger in ledgers for pair in ledger])


def less(one, other):
    """Return the ledger whose sum with other is one."""
    check_ledger(one)
    check_ledger(other)
    return summed(list(one) + [(key, -amount) for key, amount in other])


def scaled(ledger, by):
    """Return the ledger with all amounts times by."""
    check_ledger(ledger)
    check_amount(by)
    return summed([(key, amount * by) for key, amount in ledger])


def multiplied(one, other):
    """Return the product of two ledgers that were checked before."""
    return summed([(key + place, amount * by) for key, amount in one for place, by in other])


def product(one, other):
    """Return the ledger with the products of all amounts at the sums of their keys, added."""
    check_ledger(one)
    check_ledger(other)
    return multiplied(one, other)


def power(ledger, times):
    """Return the product of so many times the ledger."""
    check_ledger(ledger)
    check_number(times, 0)
    result = ((0, 1),)
    for _ in range(times):
        result = multiplied(result, ledger)
    return result


def weighted(ledger, times):
    """Return the ledger with each amount times the power of its key with exponent times."""
    check_ledger(ledger)
    check_number(times, 0)
    return summed([(key, amount * raised(key, times)) for key, amount in ledger])


def moved(ledger, by):
    """Return the ledger with each key plus by."""
    check_ledger(ledger)
    check_key(by)
    return summed([(key + by, amount) for key, amount in ledger])


def stretched(ledger, by):
    """Return the ledger with each key times by, which is not 0."""
    check_ledger(ledger)
    check_stretch(by)
    return summed([(key * by, amount) for key, amount in ledger])


def folded(ledger, modulus):
    """Return the ledger with each amount at the remainder of its key, added."""
    check_ledger(ledger)
    check_step(modulus)
    return summed([(key % modulus, amount) for key, amount in ledger])


def cut(ledger, step):
    """Return the ledger with each amount at the quotient of its key, rounded down, added."""
    check_ledger(ledger)
    check_step(step)
    return summed([(key // step, amount) for key, amount in ledger])


def part(ledger, low, width):
    """Return the ledger of the keys from low to low + width - 1 alone."""
    check_ledger(ledger)
    check_key(low)
    check_width(width, 0)
    return summed([(key, amount) for key, amount in ledger if low <= key < low + width])
