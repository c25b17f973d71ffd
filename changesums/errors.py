"""The errors of the package: each one stands directly below SumsError."""


class SumsError(ValueError):
    """Any error of this package."""


class InvalidLedger(SumsError):
    """A value is not a ledger."""


class InvalidChanges(SumsError):
    """A value is not a list of changes."""


class InvalidKey(SumsError):
    """A value is not an integer that can be a key."""


class InvalidAmount(SumsError):
    """A value is not an integer that can be an amount."""


class InvalidNumber(SumsError):
    """A value is not an integer that can be the number asked for."""


class InvalidStep(SumsError):
    """A value is not an integer that can be a step."""


class InvalidWidth(SumsError):
    """A value is not an integer that can be a width."""


class InvalidPolynomial(SumsError):
    """A value is not a polynomial that is allowed here."""


class InvalidPlace(SumsError):
    """A value is not an integer that can be a place."""


class InvalidPlaces(SumsError):
    """A value is not a list of integers."""


class InvalidSums(SumsError):
    """A value is not a non-empty tuple of integers."""


class InvalidKeys(SumsError):
    """A value is not a tuple of keys that is allowed here."""


class InvalidRows(SumsError):
    """A value is not a non-empty list of sums of one length."""


class InvalidIndex(SumsError):
    """A value is not an index that there is."""


class InvalidPrime(SumsError):
    """A value is not a prime."""


class InvalidResidues(SumsError):
    """A value is not a tuple of sums modulo the prime."""


class InvalidTalk(SumsError):
    """A value is not a list of the rounds of a talk."""


class InvalidText(SumsError):
    """A value is not a text that can be read."""


class OtherLength(SumsError):
    """Two arguments do not have the lengths that go together."""


class OutOfSpan(SumsError):
    """A ledger has a key or an amount outside of what is allowed."""


class NotMade(SumsError):
    """No ledger or no sums have what is asked for."""


class NotACount(SumsError):
    """A ledger has an amount below 0."""


class TooFewSums(SumsError):
    """There are too few sums for what is asked for."""


class NotALedger(SumsError):
    """An operand is not a ledger."""


class NotSums(SumsError):
    """An operand is not an object of sums."""


class NothingToUndo(SumsError):
    """There is no call that can be taken back."""


class TooManyKeys(SumsError):
    """A ledger would have more keys than allowed."""


class BelowZero(SumsError):
    """An amount would be below 0 at a key."""

    def __init__(self, key):
        self.key = key
