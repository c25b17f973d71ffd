"""Polynomials over the integers: products, common divisors, and their real and integer roots."""

from math import gcd

from changesums.errors import InvalidPlaces, InvalidPolynomial
from changesums.integers import check_place, is_an_integer
from changesums.whole_roots import root_bound, value_of, whole_roots


def is_polynomial(value):
    """Return whether any value is a polynomial."""
    if not isinstance(value, tuple) or not all([is_an_integer(number) for number in value]):
        return False
    return value == () or value[-1] != 0


def check_polynomial(value):
    """Raise InvalidPolynomial for any value that is not a polynomial."""
    if not is_polynomial(value):
        raise InvalidPolynomial()


def check_with_roots(value):
    """Raise InvalidPolynomial for any value that is not a polynomial, and for (), of which all numbers are roots."""
    if not is_polynomial(value) or value == ():
        raise InvalidPolynomial()


def value_at(polynomial, place):
    """Return the value at an integer."""
    check_polynomial(polynomial)
    check_place(place)
    return value_of(polynomial, place)


def convolved(one, other):
    """Return the product of two checked polynomials."""
    if one == () or other == ():
        return ()
    result = [0] * (len(one) + len(other) - 1)
    for i, number in enumerate(one):
        for j, factor in enumerate(other):
            result[i + j] = result[i + j] + number * factor
    return tuple(result)


def times(one, other):
    """Return the product of two polynomials."""
    check_polynomial(one)
    check_polynomial(other)
    return convolved(one, other)


def content(numbers):
    """Return the greatest integer that divides all numbers, 0 if there is no number but 0."""
    shared = 0
    for number in numbers:
        shared = gcd(shared, number)
    return shared


def trimmed(numbers):
    """Return the polynomial of coefficients, divided by their content; zeros at the end are left out."""
    shared = content(numbers)
    if shared == 0:
        return ()
    many = max([k + 1 for k, number in enumerate(numbers) if number != 0])
    return tuple([number // shared for number in numbers[:many]])


def negative(polynomial):
    """Return the polynomial times -1."""
    return tuple([-number for number in polynomial])


def made_primitive(polynomial):
    """Return the primitive polynomial that a checked polynomial is a multiple of."""
    if polynomial != () and polynomial[-1] < 0:
        return trimmed(negative(polynomial))
    return trimmed(polynomial)


def primitive(polynomial):
    """Return the primitive polynomial that the polynomial is a multiple of."""
    check_polynomial(polynomial)
    return made_primitive(polynomial)


def remainder(one, other):
    """Return the remainder of one divided by other, times a number above 0, without a common divisor."""
    rest = trimmed(one)
    while len(rest) >= len(other):
        shift = len(rest) - len(other)
        shared = gcd(rest[-1], other[-1])
        # The multiple is above 0: a chain of remainders must keep its signs.
        multiple = abs(other[-1]) // shared
        factor = rest[-1] * multiple // other[-1]
        numbers = [number * multiple for number in rest]
        for i, number in enumerate(other):
            numbers[shift + i] = numbers[shift + i] - factor * number
        rest = trimmed(numbers)
    return rest


def quotient(one, other):
    """Return one divided by a primitive polynomial that divides it."""
    rest = list(one)
    many = len(one) - len(other) + 1
    result = [0] * many
    for shift in reversed(range(many)):
        factor = rest[shift + len(other) - 1] // other[-1]
        result[shift] = factor
        for i, number in enumerate(other):
            rest[shift + i] = rest[shift + i] - factor * number
    return tuple(result)


def remainders(one, other):
    """Return the list of one, other, and each further remainder of two neighbours, times a number below 0.

    The last polynomial of the list is a multiple of the greatest common divisor.
    """
    chain = [one]
    while other != ():
        chain.append(other)
        one, other = other, negative(remainder(one, other))
    return chain


def common(one, other):
    """Return the primitive polynomial of the greatest degree that divides both."""
    check_polynomial(one)
    check_polynomial(other)
    return made_primitive(remainders(made_primitive(one), made_primitive(other))[-1])


def derivative(polynomial):
    """Return the derivative of a polynomial."""
    return tuple([k * number for k, number in enumerate(polynomial)][1:])


def sturm_chain(polynomial):
    """Return the list of polynomials whose sign changes count the real roots of a polynomial other than ().

    The chain of the polynomial and its derivative is divided by their common
    divisor. So the first polynomial has each root just once, and no number is
    a root of two neighbours: the count is also right where a bound is a root.
    """
    start = made_primitive(polynomial)
    chain = remainders(start, derivative(start))
    shared = made_primitive(chain[-1])
    return [quotient(each, shared) for each in chain]


def square_free(polynomial):
    """Return the primitive polynomial that has the same roots, each of them once."""
    check_with_roots(polynomial)
    return sturm_chain(polynomial)[0]


def signs_changed(chain, place):
    """Return how often neighbouring values of a chain at a place have other signs; zeros are passed over."""
    values = [value_of(polynomial, place) for polynomial in chain]
    signs = [value > 0 for value in values if value != 0]
    return len([1 for one, other in zip(signs, signs[1:]) if one != other])


def count_roots(polynomial, low, high):
    """Return the number of different real roots that are above low and at most high."""
    check_with_roots(polynomial)
    check_place(low)
    check_place(high)
    if high <= low:
        return 0
    chain = sturm_chain(polynomial)
    return signs_changed(chain, low) - signs_changed(chain, high)


def cell_of_root(polynomial, low, high):
    """Return the least integer not below the only root above low and at most high, which is a simple one."""
    above = value_of(polynomial, high)
    if above == 0:
        return high
    while high - low > 1:
        middle = (low + high) // 2
        value = value_of(polynomial, middle)
        # low may be a root that does not count, so only the sign at high tells the side.
        if value == 0 or (value > 0) == (above > 0):
            high = middle
        else:
            low = middle
    return high


def root_cells(polynomial):
    """Return the tuples (k, many) of all integers k with many different real roots above k - 1 and at most k."""
    check_with_roots(polynomial)
    chain = sturm_chain(polynomial)
    bound = root_bound(polynomial)
    cells = []
    waiting = [(-bound, signs_changed(chain, -bound), bound, signs_changed(chain, bound))]
    while waiting:
        low, at_low, high, at_high = waiting.pop()
        many = at_low - at_high
        if many == 1:
            cells.append((cell_of_root(chain[0], low, high), 1))
        elif many > 1 and high - low == 1:
            cells.append((high, many))
        elif many > 1:
            middle = (low + high) // 2
            between = signs_changed(chain, middle)
            # The lower half is taken first, so the cells ascend.
            waiting.append((middle, between, high, at_high))
            waiting.append((low, at_low, middle, between))
    return cells


def integer_roots(polynomial):
    """Return the ascending list of the tuples (root, many) of the integer roots."""
    check_with_roots(polynomial)
    return whole_roots(polynomial)


def from_roots(roots):
    """Return the polynomial with the last coefficient 1 whose roots are the integers of a list."""
    if not isinstance(roots, list) or not all([is_an_integer(root) for root in roots]):
        raise InvalidPlaces()
    result = (1,)
    for root in roots:
        result = convolved(result, (-root, 1))
    return result
