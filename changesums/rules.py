"""Rules of sums: the shortest ones, determinants, and the amounts at given keys."""

from changesums.amounts import check_keys, fractions_at, in_least_terms
from changesums.errors import InvalidNumber
from changesums.integers import is_from
from changesums.polynomials import check_polynomial, made_primitive
from changesums.shortest import first_fault, shortest_rule
from changesums.sums import check_sums


def is_rule(sums, polynomial):
    """Return whether a polynomial is a rule of the sums."""
    check_sums(sums)
    check_polynomial(polynomial)
    if polynomial == () or len(polynomial) > len(sums) + 1:
        return False
    return first_fault(sums, polynomial, 0) is None


def rule_length(sums):
    """Return the least length of a rule."""
    check_sums(sums)
    length, _ = shortest_rule(sums)
    return length


def rule_of(sums):
    """Return the only primitive rule of the least length, None if twice the length is above the number of the sums."""
    check_sums(sums)
    _, rule = shortest_rule(sums)
    return None if rule is None else made_primitive(rule)


def with_pivot(table, k):
    """Return the table with a row whose item k is not 0 as row k, and the sign of the exchange, 0 if there is none."""
    for i in range(k, len(table)):
        if table[i][k] != 0:
            if i == k:
                return table, 1
            return table[:k] + [table[i]] + table[k + 1:i] + [table[k]] + table[i + 1:], -1
    return table, 0


def determinant(sums, size):
    """Return the determinant of the table in whose row i the integers s(i), s(i + 1) .. stand."""
    check_sums(sums)
    if not is_from(size, 0) or 2 * size > len(sums) + 1:
        raise InvalidNumber()
    table = [list(sums[i:i + size]) for i in range(size)]
    sign = 1
    divisor = 1
    for k in range(size):
        table, exchange = with_pivot(table, k)
        if exchange == 0:
            return 0
        sign = sign * exchange
        top = table[k]
        # Each item is a determinant of a part of the table, so the division leaves no rest.
        for i in range(k + 1, size):
            row = table[i]
            table[i] = [0] * (k + 1) + [
                (row[j] * top[k] - row[k] * top[j]) // divisor for j in range(k + 1, size)]
        divisor = top[k]
    return sign * divisor


def amounts_for(sums, keys):
    """Return the list of the amounts (top, bottom) at keys that give the first sums, as many as the keys."""
    check_sums(sums)
    check_keys(keys, len(sums))
    return [in_least_terms(top, bottom) for top, bottom in fractions_at(sums, keys)]
