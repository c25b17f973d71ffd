"""Amounts at given keys that give the first sums, and the only ledgers with such keys."""

from math import gcd

from changesums.errors import InvalidKeys
from changesums.integers import is_an_integer
from changesums.polynomials import from_roots
from changesums.sums import first_sums
from changesums.whole_roots import divided, value_of


def are_keys(value):
    """Return whether any value is a tuple of strictly ascending integers."""
    if not isinstance(value, tuple) or not all([is_an_integer(key) for key in value]):
        return False
    return all([one < other for one, other in zip(value, value[1:])])


def check_keys(value, most):
    """Raise InvalidKeys for any value that is not a tuple of at most so many strictly ascending integers."""
    if not are_keys(value) or len(value) > most:
        raise InvalidKeys()


def in_least_terms(top, bottom):
    """Return the tuple of the top and the bottom, which is above 0, of a fraction without a common divisor."""
    shared = gcd(top, bottom) if bottom > 0 else -gcd(top, bottom)
    return (top // shared, bottom // shared)


def fractions_at(sums, keys):
    """Return the amounts at the keys that give the first sums, as many as the keys, as tuples (top, bottom).

    The tuples are not in least terms, and a bottom may be below 0.
    """
    every = from_roots(list(keys))
    found = []
    for key in keys:
        # This polynomial is 0 at all other keys, so the sums tell the amount at this one by it.
        others, _ = divided(every, key)
        top = sum([factor * number for factor, number in zip(others, sums)])
        found.append((top, value_of(others, key)))
    return found


def only_ledger(sums, keys):
    """Return the ledger that has the sums and no other keys, None if there is none."""
    found = fractions_at(sums, keys)
    if any([top % bottom != 0 for top, bottom in found]):
        return None
    pairs = [(key, top // bottom) for key, (top, bottom) in zip(keys, found)]
    ledger = tuple([(key, amount) for key, amount in pairs if amount != 0])
    return ledger if first_sums(ledger, len(sums)) == sums else None
