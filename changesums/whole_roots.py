"""Values of polynomials at integers, and their integer roots, which are looked for modulo powers of a prime."""

from math import comb

# A prime above the degrees in use, yet so small that all remainders are tried.
BASE = 101


def value_of(polynomial, place):
    """Return the value of a checked polynomial at an integer."""
    result = 0
    for number in polynomial[::-1]:
        result = result * place + number
    return result


def divided(polynomial, root):
    """Return the quotient of a polynomial by x - root, and the value at the root, which is the remainder."""
    numbers = []
    number = 0
    for coefficient in polynomial[::-1]:
        number = number * root + coefficient
        numbers.append(number)
    return tuple(numbers[-2::-1]), number


def root_bound(polynomial):
    """Return a power of 2 that is above the absolute value of each root."""
    top = abs(polynomial[-1]).bit_length()
    exponent = 0
    for k, number in enumerate(polynomial[-2::-1]):
        # No absolute value of a root is above twice the greatest of the (k + 1)-th roots
        # of abs(number / last coefficient), and 2 to the exponent is above all of these.
        exponent = max(exponent, -((top - 1 - abs(number).bit_length()) // (k + 1)))
    return 1 << (exponent + 1)


def multiplicity(polynomial, root, most):
    """Return the number of times that an integer is a root of a polynomial, but at most so many."""
    rest = polynomial
    for many in range(most):
        rest, value = divided(rest, root)
        if value != 0:
            return many
    return most


def without_base(polynomial):
    """Return a polynomial other than () divided by the greatest power of BASE that divides its coefficients."""
    rest = polynomial
    while all([number % BASE == 0 for number in rest]):
        rest = tuple([number // BASE for number in rest])
    return rest


def seen_from(polynomial, digit):
    """Return the polynomial at digit + BASE * y as a polynomial in y, divided as by without_base."""
    numbers = []
    scale = 1
    rest = polynomial
    while rest != ():
        rest, value = divided(rest, digit)
        numbers.append(value * scale)
        scale = scale * BASE
    return without_base(tuple(numbers))


def remainders_of(polynomial, modulus):
    """Return the remainders of the coefficients, without zeros at the end."""
    rests = [number % modulus for number in polynomial]
    while rests and rests[-1] == 0:
        rests.pop()
    return tuple(rests)


def roots_modulo_base(rests):
    """Return the integers from 0 to BASE - 1 at which the value is divisible by BASE."""
    return [digit for digit in range(BASE) if value_of(rests, digit) % BASE == 0]


def order_modulo_base(rests, digit):
    """Return the number of times that a digit is a root modulo BASE; not all coefficients are divisible by it."""
    many = 0
    rest, value = divided(rests, digit)
    while value % BASE == 0:
        many = many + 1
        rest, value = divided(rest, digit)
    return many


def digits_of_roots(polynomial):
    """Return the tuples (digit, many) of the roots modulo BASE and the numbers of times that they are roots."""
    rests = remainders_of(polynomial, BASE)
    return [(digit, order_modulo_base(rests, digit)) for digit in roots_modulo_base(rests)]


def inverse_modulo_base(number):
    """Return the digit whose product with a number has the remainder 1, 0 if there is none."""
    for digit in range(BASE):
        if digit * number % BASE == 1:
            return digit
    return 0


def value_and_slope(polynomial, place, modulus):
    """Return the remainders of the value and of the value of the derivative."""
    value = 0
    slope = 0
    for number in polynomial[::-1]:
        slope = (slope * place + value) % modulus
        value = (value * place + number) % modulus
    return value, slope


def lifted(polynomial, digit, modulus):
    """Return the root that ends in a digit, a simple root modulo BASE, modulo a modulus.

    The modulus is BASE, its square, the square of this, and so on.
    """
    root = digit
    inverse = inverse_modulo_base(value_and_slope(polynomial, digit, BASE)[1])
    reached = BASE
    while reached < modulus:
        reached = reached * reached
        value, slope = value_and_slope(polynomial, root, reached)
        inverse = inverse * (2 - slope * inverse) % reached
        root = (root - value * inverse) % reached
    return root


def derived(polynomial, order):
    """Return the derivative of an order, divided by the factorial of the order."""
    return tuple([comb(k, order) * number for k, number in enumerate(polynomial)][order:])


def lifting_modulus(scale, bound):
    """Return the first of BASE, its square, the square of this .. whose product with scale is above 2 * bound."""
    modulus = BASE
    while scale * modulus <= 2 * bound:
        modulus = modulus * modulus
    return modulus


def around_zero(root, modulus):
    """Return the integer with the same remainder that is nearest to 0."""
    return root - modulus if 2 * root > modulus else root


def whole_roots(polynomial):
    """Return the ascending list of the tuples (root, many) of the integer roots of a polynomial other than ().

    The digits of a root to BASE are found from the last one on: with a root
    d + BASE * y, d is a root modulo BASE, and y is a root of another polynomial.
    A last digit that belongs to one root alone tells all other digits at once.
    """
    bound = root_bound(polynomial)
    found = []
    waiting = [(0, 1, without_base(polynomial))]
    while waiting:
        start, scale, rest = waiting.pop()
        if scale > 2 * bound:
            root = around_zero(start, scale)
            found.append((root, multiplicity(polynomial, root, len(polynomial))))
            continue
        modulus = lifting_modulus(scale, bound)
        rests = remainders_of(rest, modulus)
        for digit, many in digits_of_roots(rests):
            # If one integer is all of these roots, it is a simple root of this derivative.
            y = lifted(derived(rests, many - 1), digit, modulus)
            root = around_zero(start + scale * y, scale * modulus)
            if multiplicity(polynomial, root, many) == many:
                found.append((root, many))
            elif many > 1:
                waiting.append((start + scale * digit, scale * BASE, seen_from(rest, digit)))
    return sorted([(root, many) for root, many in found if many > 0])
