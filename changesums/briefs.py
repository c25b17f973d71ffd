"""Briefs: which integers are sums of any ledger, and the only ledgers in short spans that have given sums."""

from math import comb

from changesums.amounts import check_keys, only_ledger
from changesums.errors import InvalidWidth
from changesums.integers import check_key, check_number, is_an_integer
from changesums.ledgers import check_ledger
from changesums.sums import check_sums, first_apart


def ledger_in_span(sums, low, width):
    """Return the ledger that has checked sums and no keys but those from low to low + width - 1, or None."""
    return only_ledger(sums, tuple(range(low, low + width)))


def is_made(sums):
    """Return whether any ledger has the sums."""
    return brief(sums) is not None


def brief(sums):
    """Return the ledger with keys from 0 to the number of the sums less 1 that has the sums, or None."""
    check_sums(sums)
    return ledger_in_span(sums, 0, len(sums))


def in_span(sums, low, width):
    """Return the ledger that has the sums and no keys but those from low to low + width - 1, or None."""
    check_sums(sums)
    check_key(low)
    if not is_an_integer(width) or not 1 <= width <= len(sums):
        raise InvalidWidth()
    return ledger_in_span(sums, low, width)


def on_keys(sums, keys):
    """Return the ledger that has the sums and no keys but those of a tuple, or None."""
    check_sums(sums)
    check_keys(keys, len(sums))
    return only_ledger(sums, keys)


def least_blind(number, low):
    """Return the ledger from low to low + number, with 1 there, whose first number sums are 0."""
    check_number(number, 0)
    check_key(low)
    signs = [1 if (number - k) % 2 == 0 else -1 for k in range(number + 1)]
    return tuple([(low + k, sign * comb(number, k)) for k, sign in enumerate(signs)])


def without_step(amounts):
    """Return the amounts at neighbouring keys of the quotient by ((0, -1), (1, 1)), which divides the ledger."""
    result = []
    total = 0
    for amount in amounts[:-1]:
        total = total - amount
        result.append(total)
    return result


def cleared(ledger):
    """Return the ledger whose product with least_blind(blind(ledger), 0) is the ledger, () for ()."""
    check_ledger(ledger)
    number = first_apart(ledger)
    if number is None or number == 0:
        return ledger
    low = ledger[0][0]
    table = dict(ledger)
    amounts = [table.get(key, 0) for key in range(low, ledger[-1][0] + 1)]
    for _ in range(number):
        amounts = without_step(amounts)
    return tuple([(low + k, amount) for k, amount in enumerate(amounts) if amount != 0])
