"""Ledgers and sums modulo a prime."""

from changesums.errors import InvalidNumber, InvalidPrime, InvalidResidues, OtherLength
from changesums.integers import is_an_integer, is_from
from changesums.ledgers import check_ledger, summed
from changesums.shortest import inverse_modulo, rule_modulo
from changesums.whole_roots import divided, value_of


def is_prime(value):
    """Return whether any value is a prime."""
    if not is_from(value, 2):
        return False
    divisor = 2
    while divisor * divisor <= value:
        if value % divisor == 0:
            return False
        divisor = divisor + (1 if divisor == 2 else 2)
    return True


def check_prime(value):
    """Raise InvalidPrime for any value that is not a prime."""
    if not is_prime(value):
        raise InvalidPrime()


def check_residues(value, prime):
    """Raise InvalidResidues for any value that is not sums modulo the prime."""
    if not isinstance(value, tuple) or not 1 <= len(value) <= prime:
        raise InvalidResidues()
    if not all([is_an_integer(number) and 0 <= number < prime for number in value]):
        raise InvalidResidues()


def remaining(pairs, prime):
    """Return the ledger modulo the prime of a row of changes."""
    found = summed([(key % prime, amount) for key, amount in pairs])
    return tuple([(key, amount % prime) for key, amount in found if amount % prime != 0])


def reduced(ledger, prime):
    """Return the ledger modulo the prime that is left of any ledger."""
    check_ledger(ledger)
    check_prime(prime)
    return remaining(ledger, prime)


def sums_modulo(ledger, prime, number):
    """Return the remainders of the first sums of any ledger, so many of them."""
    check_ledger(ledger)
    check_prime(prime)
    if not is_from(number, 1) or number > prime:
        raise InvalidNumber()
    result = []
    pairs = remaining(ledger, prime)
    keys = [key for key, amount in pairs]
    terms = [amount for key, amount in pairs]
    for _ in range(number):
        result.append(sum(terms) % prime)
        terms = [term * key % prime for term, key in zip(terms, keys)]
    return tuple(result)


def amount_modulo(sums, others, key, prime):
    """Return the amount at a key, by the polynomial that is 0 at all other keys of the ledger that has the sums."""
    top = sum([factor * number for factor, number in zip(others, sums)])
    return top * inverse_modulo(value_of(others, key) % prime, prime) % prime


def told_modulo(sums, prime):
    """Return the ledger modulo the prime with at most half as many keys as there are sums that has them, or None."""
    check_prime(prime)
    check_residues(sums, prime)
    rule = rule_modulo(sums, prime)
    length = len(rule) - 1
    if 2 * length > len(sums):
        return None
    keys = [key for key in range(prime) if value_of(rule, key) % prime == 0]
    if len(keys) < length:
        return None
    # Without one of its roots the rule is, but for a factor, 0 at all other keys.
    others = [[number % prime for number in divided(rule, key)[0]] for key in keys]
    return tuple([(key, amount_modulo(sums, rest, key, prime)) for key, rest in zip(keys, others)])


def rule_length_modulo(sums, prime):
    """Return the least length of a rule modulo the prime."""
    check_prime(prime)
    check_residues(sums, prime)
    return len(rule_modulo(sums, prime)) - 1


def all_told(sums, prime):
    """Return the only ledger modulo the prime that has the sums modulo the prime, as many as the prime."""
    check_prime(prime)
    check_residues(sums, prime)
    if len(sums) < prime:
        raise OtherLength()
    # 1 less the power prime - 1 of x - key is 1 at the key and 0 at all others; modulo the
    # prime the coefficient of x with exponent j in that power is the power prime - 1 - j of the key.
    return remaining([(key, sums[0] - value_of(sums[::-1], key)) for key in range(prime)], prime)
