"""The shortest rules of sums: exactly, and modulo a prime."""

from changesums.integers import raised
from changesums.whole_roots import BASE

# A prime that is so great that the coefficients of the rules of most ledgers
# within the documented limits can be told from their remainders.
GREAT_PRIME = (1 << 1279) - 1

# A rule that is longer than this, of sums with more bits than this, takes so
# long to find exactly that it is worth while to look for it modulo a prime first.
LONG = 6
WIDE = 400


def in_row(sums, rule, place):
    """Return the sum of the products of the coefficients and the integers of the sums from a place on."""
    return sum([factor * number for factor, number in zip(rule, sums[place:place + len(rule)])])


def first_fault(sums, rule, start):
    """Return the least place from start on at which the coefficients give no 0, or None if there is none."""
    for place in range(start, len(sums) - len(rule) + 1):
        if in_row(sums, rule, place) != 0:
            return place
    return None


def are_wide(sums):
    """Return whether some of the sums have many bits."""
    return max([abs(number).bit_length() for number in sums]) > WIDE


def rule_modulo(sums, prime):
    """Return the coefficients of a rule of the least length modulo a prime; the last one is not 0.

    It is made longer or changed at each integer of the sums that it does not tell.
    """
    rests = [number % prime for number in sums]
    rule = [1]
    older = []
    divisor = 1
    for index in range(len(rests)):
        length = len(rule) - 1
        fault = in_row(rests, rule, index - length) % prime
        if fault == 0:
            continue
        growth = max(0, index + 1 - 2 * length)
        shift = max(0, 2 * length - index - 1)
        changed = [0] * growth + [divisor * factor % prime for factor in rule]
        for k, factor in enumerate(older):
            changed[shift + k] = (changed[shift + k] - fault * factor) % prime
        if growth > 0:
            older = rule
            divisor = fault
        rule = changed
    return rule


def inverse_modulo(number, prime):
    """Return the number from 1 to prime - 1 whose product with a number has the remainder 1."""
    one, other = prime, number
    before, result = 0, 1
    while other != 1:
        factor = one // other
        one, other = other, one - factor * other
        before, result = result, before - factor * result
    return result % prime


def whole_rule(sums):
    """Return the rule of the least length if its last coefficient is 1 and it is found modulo GREAT_PRIME, or None.

    Twice its length is at most the number of the sums. There is no shorter one:
    the determinant of the size of the length is not 0 modulo the prime, so it is not 0.
    """
    rests = rule_modulo(sums, GREAT_PRIME)
    if 2 * len(rests) - 2 > len(sums):
        return None
    inverse = inverse_modulo(rests[-1], GREAT_PRIME)
    numbers = [number * inverse % GREAT_PRIME for number in rests]
    rule = tuple([number - GREAT_PRIME if 2 * number > GREAT_PRIME else number for number in numbers])
    return rule if first_fault(sums, rule, 0) is None else None


def rule_over(older, rule, tops, row, divisor):
    """Return the next one of the rules that the division of polynomials with remainders gives.

    tops and row are what older and rule give from the place of their faults on,
    as many integers of each as the next rule is longer than rule, and one more.
    """
    growth = len(row) - 1
    factors = [0] * (growth + 1)
    rest = tops
    for k in reversed(range(growth + 1)):
        top = rest[0]
        factors = [row[0] * factor for factor in factors]
        factors[k] = top
        rest = [row[0] * rest[i] - top * row[i] for i in range(1, k + 1)]
    times = raised(row[0], growth + 1)
    result = [times * number for number in older] + [0] * (len(rule) + growth - len(older))
    for i, factor in enumerate(factors):
        for j, number in enumerate(rule):
            result[i + j] = result[i + j] - factor * number
    return tuple([number // divisor for number in result])


def exact_rule(sums):
    """Return the tuple (length, rule): the least length of a rule, and such a rule.

    The rule is None if twice the length is above the number of the sums. Otherwise
    it is not divided by the common divisor of its coefficients. The rules on the
    way are the cofactors of the remainders of Euclid's algorithm, and the divisor
    is that of the subresultants, so no fractions are needed.
    """
    older, older_fault = (), -1
    rule = (1,)
    scale = 1
    while True:
        length = len(rule) - 1
        fault = first_fault(sums, rule, length)
        if fault is None:
            return length, rule
        if 2 * (fault + 1) > len(sums):
            return fault + 1, None
        growth = fault + 1 - length
        row = [in_row(sums, rule, fault + k) for k in range(growth + 1)]
        tops = [in_row(sums, older, older_fault + k) for k in range(growth + 1)]
        if older == ():
            tops[0] = 1
        longer = rule_over(older, rule, tops, row, tops[0] * raised(scale, growth))
        scale = raised(row[0], growth) // raised(scale, growth - 1)
        older, older_fault, rule = rule, fault, longer


def takes_long(sums):
    """Return whether exact_rule may take long; it is a guess by the length of a rule modulo a small prime."""
    return are_wide(sums) and len(rule_modulo(sums, BASE)) - 1 > LONG


def shortest_rule(sums):
    """Return the tuple (length, rule) of exact_rule."""
    rule = whole_rule(sums) if takes_long(sums) else None
    return exact_rule(sums) if rule is None else (len(rule) - 1, rule)
