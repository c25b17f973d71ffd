"""Texts that write ledgers and sums."""

from changesums.errors import InvalidText
from changesums.integers import raised
from changesums.ledgers import check_ledger, is_ledger
from changesums.sums import check_sums, is_sums

# Python refuses to write or read integers of some thousands of digits at once.
PIECE = 1000


def written(number):
    """Return an integer as a text."""
    pieces = []
    rest = abs(number)
    # A number with so many bits has more than so many digits.
    while rest.bit_length() > 4 * PIECE:
        rest, last = divmod(rest, raised(10, PIECE))
        pieces.append(str(last).zfill(PIECE))
    digits = str(rest) + "".join(pieces[::-1])
    return "-" + digits if number < 0 else digits


def natural_read(text):
    """Return the integer from 0 on that is written in digits without a leading zero, or None."""
    if not text.isascii() or not text.isdigit() or (text[0] == "0" and text != "0"):
        return None
    result = 0
    for start in range(0, len(text), PIECE):
        piece = text[start:start + PIECE]
        result = result * raised(10, len(piece)) + int(piece)
    return result


def integer_read(text):
    """Return the integer that is written in a text, or None; 0 has no sign."""
    if text[:1] != "-":
        return natural_read(text)
    number = natural_read(text[1:])
    return None if number is None or number == 0 else -number


def pair_read(text):
    """Return the tuple (key, amount) that is written in a text; what is not written well in it is None."""
    key, _, amount = text.partition(":")
    if amount[:1] == "+":
        return integer_read(key), natural_read(amount[1:])
    if amount[:1] == "-":
        return integer_read(key), integer_read(amount)
    return integer_read(key), None


def format_ledger(ledger):
    """Return the text that writes a ledger."""
    check_ledger(ledger)
    if ledger == ():
        return "-"
    return " ".join([
        written(key) + ":" + ("+" if amount > 0 else "") + written(amount) for key, amount in ledger])


def parse_ledger(text):
    """Return the ledger that a text writes."""
    if not isinstance(text, str):
        raise InvalidText()
    if text == "-":
        return ()
    ledger = tuple([pair_read(piece) for piece in text.split(" ")])
    if not is_ledger(ledger):
        raise InvalidText()
    return ledger


def format_sums(sums):
    """Return the text that writes sums."""
    check_sums(sums)
    return "sums " + ", ".join([written(number) for number in sums])


def parse_sums(text):
    """Return the sums that a text writes."""
    if not isinstance(text, str) or not text.startswith("sums "):
        raise InvalidText()
    sums = tuple([integer_read(piece) for piece in text[5:].split(", ")])
    if not is_sums(sums):
        raise InvalidText()
    return sums
