"""What an integer is, the checks of arguments that are one integer, and powers."""

from changesums.errors import InvalidAmount, InvalidKey, InvalidNumber, InvalidPlace, InvalidStep, InvalidWidth


def is_an_integer(value):
    """Return whether any value is an integer; True and False are none."""
    return isinstance(value, int) and not isinstance(value, bool)


def is_from(value, least):
    """Return whether any value is an integer from a least one on."""
    return is_an_integer(value) and value >= least


def check_key(value):
    """Raise InvalidKey for any value that is not an integer."""
    if not is_an_integer(value):
        raise InvalidKey()


def check_amount(value):
    """Raise InvalidAmount for any value that is not an integer."""
    if not is_an_integer(value):
        raise InvalidAmount()


def check_place(value):
    """Raise InvalidPlace for any value that is not an integer."""
    if not is_an_integer(value):
        raise InvalidPlace()


def check_number(value, least):
    """Raise InvalidNumber for any value that is not an integer from a least one on."""
    if not is_from(value, least):
        raise InvalidNumber()


def check_step(value):
    """Raise InvalidStep for any value that is not an integer from 1 on."""
    if not is_from(value, 1):
        raise InvalidStep()


def check_stretch(value):
    """Raise InvalidStep for any value that is not an integer other than 0."""
    if not is_an_integer(value) or value == 0:
        raise InvalidStep()


def check_width(value, least):
    """Raise InvalidWidth for any value that is not an integer from a least one on."""
    if not is_from(value, least):
        raise InvalidWidth()


def raised(base, times):
    """Return the power of an integer with an exponent from 0 on."""
    result = 1
    for _ in range(times):
        result = result * base
    return result
