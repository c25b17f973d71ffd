"""Objects that hold a ledger or sums, with operators."""

from changesums.briefs import ledger_in_span
from changesums.errors import InvalidIndex, NotALedger, NotMade, NotSums
from changesums.integers import check_key, is_an_integer, is_from
from changesums.ledgers import (
    added, amount_at, check_ledger, cut, folded, is_ledger, less, moved, power, product, scaled, weight, with_amount)
from changesums.sums import (
    check_sums, sums_added, sums_less, sums_moved, sums_of, sums_product, sums_quotient, sums_scaled, with_change)
from changesums.told import explained, ledger_told


class Ledger:
    """A ledger with operators; it may be changed."""

    def __init__(self, pairs=()):
        check_ledger(pairs)
        self._pairs = pairs

    @property
    def pairs(self):
        """The ledger."""
        return self._pairs

    def __iter__(self):
        raise TypeError("a ledger object is not iterated over")

    def __getitem__(self, at):
        return amount_at(self._pairs, at)

    def __setitem__(self, at, worth):
        self._pairs = with_amount(self._pairs, at, worth)

    def __len__(self):
        return len(self._pairs)

    def __contains__(self, x):
        return is_an_integer(x) and any([key == x for key, amount in self._pairs])

    def __eq__(self, other):
        return isinstance(other, Ledger) and self._pairs == other._pairs

    def __abs__(self):
        return weight(self._pairs)

    def __neg__(self):
        return Ledger(scaled(self._pairs, -1))

    def __add__(self, other):
        return Ledger(added(self._pairs, pairs_of(other)))

    def __radd__(self, other):
        return Ledger(added(pairs_of(other), self._pairs))

    def __iadd__(self, other):
        self._pairs = added(self._pairs, pairs_of(other))
        return self

    def __sub__(self, other):
        return Ledger(less(self._pairs, pairs_of(other)))

    def __rsub__(self, other):
        return Ledger(less(pairs_of(other), self._pairs))

    def __isub__(self, other):
        self._pairs = less(self._pairs, pairs_of(other))
        return self

    def __mul__(self, other):
        return Ledger(times_operand(self._pairs, other))

    def __rmul__(self, other):
        return Ledger(times_operand(self._pairs, other))

    def __imul__(self, other):
        self._pairs = times_operand(self._pairs, other)
        return self

    def __pow__(self, other):
        return Ledger(power(self._pairs, other))

    def __lshift__(self, other):
        return Ledger(moved(self._pairs, other))

    def __ilshift__(self, other):
        self._pairs = moved(self._pairs, other)
        return self

    def __rshift__(self, other):
        return Ledger(moved_back(self._pairs, other))

    def __irshift__(self, other):
        self._pairs = moved_back(self._pairs, other)
        return self

    def __floordiv__(self, other):
        return Ledger(cut(self._pairs, other))

    def __mod__(self, other):
        return Ledger(folded(self._pairs, other))


def pairs_of(operand):
    """Return the ledger of an operand that is a Ledger object or a ledger."""
    if isinstance(operand, Ledger):
        return operand.pairs
    if not is_ledger(operand):
        raise NotALedger()
    return operand


def times_operand(pairs, operand):
    """Return the ledger scaled by an integer, or its product with another operand."""
    if is_an_integer(operand):
        return scaled(pairs, operand)
    return product(pairs, pairs_of(operand))


def moved_back(pairs, by):
    """Return the ledger with each key less by."""
    check_key(by)
    return moved(pairs, -by)


class Sums:
    """Sums with operators; they never change."""

    def __init__(self, numbers):
        check_sums(numbers)
        self._numbers = numbers

    @classmethod
    def of(cls, ledger, number):
        """Return the object of the first sums of a ledger, so many of them."""
        return cls(sums_of(ledger, number))

    @property
    def numbers(self):
        """The sums."""
        return self._numbers

    def __iter__(self):
        raise TypeError("an object of sums is not iterated over")

    def __len__(self):
        return len(self._numbers)

    def __getitem__(self, at):
        if not is_from(at, 0) or at >= len(self._numbers):
            raise InvalidIndex()
        return self._numbers[at]

    def __eq__(self, other):
        return isinstance(other, Sums) and self._numbers == other._numbers

    def __add__(self, other):
        return Sums(sums_added(self._numbers, numbers_of(other)))

    def __sub__(self, other):
        return Sums(sums_less(self._numbers, numbers_of(other)))

    def __mul__(self, other):
        if is_an_integer(other):
            return Sums(sums_scaled(self._numbers, other))
        return Sums(sums_product(self._numbers, numbers_of(other)))

    def __rmul__(self, other):
        if not is_an_integer(other):
            raise NotSums()
        return Sums(sums_scaled(self._numbers, other))

    def __floordiv__(self, other):
        numbers = sums_quotient(self._numbers, numbers_of(other))
        if numbers is None:
            raise NotMade()
        return Sums(numbers)

    def __lshift__(self, other):
        return Sums(sums_moved(self._numbers, other))

    def __call__(self, key, by):
        return Sums(with_change(self._numbers, key, by))

    def told(self):
        """Return what the function told returns for the sums."""
        return ledger_told(self._numbers)

    def reason(self):
        """Return what the function reason returns for the sums."""
        _, why = explained(self._numbers)
        return why

    def brief(self):
        """Return what the function brief returns for the sums."""
        return ledger_in_span(self._numbers, 0, len(self._numbers))


def numbers_of(operand):
    """Return the sums of an operand that is a Sums object."""
    if not isinstance(operand, Sums):
        raise NotSums()
    return operand.numbers
