"""Ledgers told back from sums."""

from changesums.amounts import fractions_at
from changesums.errors import TooFewSums
from changesums.integers import check_number, raised
from changesums.ledgers import check_ledger
from changesums.shortest import are_wide, rule_modulo, shortest_rule
from changesums.sums import check_rows, check_sums, first_sums, sums_less
from changesums.whole_roots import BASE, roots_modulo_base, whole_roots


def explained(sums):
    """Return the tuple (ledger, reason) for checked sums: what told and reason return."""
    length, rule = shortest_rule(sums)
    if rule is None:
        return None, ("rule", length)
    keys = tuple([root for root, many in whole_roots(rule)])
    if len(keys) < length:
        return None, ("roots", len(keys))
    ledger = []
    for key, (top, bottom) in zip(keys, fractions_at(sums, keys)):
        if top % bottom != 0:
            return None, ("amount", key)
        ledger.append((key, top // bottom))
    return tuple(ledger), None


def has_keys_modulo(sums):
    """Return whether the sums are modulo BASE those of a ledger of at most half as many keys.

    If they are not, they are not those of such a ledger exactly.
    """
    rule = rule_modulo(sums, BASE)
    length = len(rule) - 1
    return 2 * length <= len(sums) and len(roots_modulo_base(rule)) == length


def ledger_told(sums):
    """Return the ledger with at most half as many keys as there are checked sums that has them, or None."""
    # Most wide sums that no ledger has are told so without their exact rule, which takes longer.
    if are_wide(sums) and not has_keys_modulo(sums):
        return None
    ledger, _ = explained(sums)
    return ledger


def told(sums):
    """Return the ledger with at most half as many keys as there are sums that has the sums, or None."""
    check_sums(sums)
    return ledger_told(sums)


def reason(sums):
    """Return why told returns None: ("rule", length), ("roots", many) or ("amount", key); None if it does not."""
    check_sums(sums)
    _, why = explained(sums)
    return why


def sure(sums, most):
    """Return the ledger told if no other ledger with at most so many keys has the sums, or None."""
    check_sums(sums)
    check_number(most, 0)
    ledger = ledger_told(sums)
    return ledger if ledger is not None and len(ledger) + most <= len(sums) else None


def mistaken(ledger, number):
    """Return the ledger told for so many sums of a ledger if it is another one, and None otherwise."""
    check_ledger(ledger)
    check_number(number, 1)
    found = ledger_told(first_sums(ledger, number))
    return None if found == ledger else found


def changed(before, after):
    """Return the ledger told for the difference after less before."""
    return ledger_told(sums_less(after, before))


def steps_told(rows):
    """Return the list of the ledgers told for the difference of each row and the next one."""
    check_rows(rows)
    return [changed(before, after) for before, after in zip(rows, rows[1:])]


def told_from(sums, start, number):
    """Return the ledger without the key 0 that so many sums from an index on tell, or None."""
    weighted = ledger_told(sums[start:start + number])
    if weighted is None:
        return None
    ledger = []
    for key, amount in weighted:
        # The sums from there on are those of the ledger with its amounts times these powers.
        factor = raised(key, start)
        if key == 0 or amount % factor != 0:
            return None
        ledger.append((key, amount // factor))
    return tuple(ledger)


def mended(sums, *, keys, wrong):
    """Return the tuple (ledger, indexes) of the ledger and the list of the wrong sums, or None."""
    check_sums(sums)
    check_number(keys, 1)
    check_number(wrong, 0)
    if len(sums) < 2 * keys * (2 * wrong + 1):
        raise TooFewSums()
    # Of wrong + 1 parts of the sums one has no wrong sum, and 2 * keys sums of it tell the ledger.
    for k in range(wrong + 1):
        ledger = told_from(sums, 2 * keys * k, 2 * keys)
        if ledger is not None:
            right = first_sums(ledger, len(sums))
            indexes = [j for j, number in enumerate(sums) if number != right[j]]
            if len(indexes) <= wrong:
                return (ledger, indexes)
    return None
