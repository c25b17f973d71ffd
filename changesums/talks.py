"""Talks: how two stores learn the exact difference of their ledgers, range by range."""

from changesums.briefs import ledger_in_span
from changesums.errors import InvalidTalk, NotMade, OtherLength, OutOfSpan
from changesums.integers import check_key, check_number, check_width, is_an_integer, is_from
from changesums.ledgers import check_ledger, is_ledger, less
from changesums.sums import check_sums, sums_less
from changesums.told import sure


def check_tellings(one, many, other, other_many):
    """Check the sums and the numbers of keys of two stores, in this order; their lengths are not checked."""
    check_sums(one)
    check_number(many, 0)
    check_sums(other)
    check_number(other_many, 0)


def check_in_span(one, other, low, width):
    """Raise OutOfSpan if one of two checked ledgers has a key out of the span."""
    for ledger in (one, other):
        if ledger != () and not low <= ledger[0][0] <= ledger[-1][0] < low + width:
            raise OutOfSpan()


def is_verdict(value):
    """Return whether any value has the form of a verdict."""
    if not isinstance(value, tuple) or len(value) == 0 or not isinstance(value[0], str):
        return False
    if len(value) == 1:
        return value[0] == "cut"
    return len(value) == 2 and value[0] == "told" and is_ledger(value[1])


def is_row(value):
    """Return whether any value has the form of one range of a round."""
    if not isinstance(value, tuple) or len(value) != 3:
        return False
    return is_an_integer(value[0]) and is_from(value[1], 1) and is_verdict(value[2])


def check_talk(value):
    """Raise InvalidTalk for any value that does not have the form of the rounds of a talk."""
    if not isinstance(value, list) or not all([isinstance(row, list) for row in value]):
        raise InvalidTalk()
    if not all([is_row(each) for row in value for each in row]):
        raise InvalidTalk()


def verdict(one, many, other, other_many, *, low, width):
    """Return what follows for a range from the sums and the numbers of keys of both stores."""
    check_tellings(one, many, other, other_many)
    check_key(low)
    check_width(width, 1)
    apart = sums_less(one, other)
    ledger = sure(apart, many + other_many)
    if ledger is not None:
        return ("told", ledger)
    if width > len(apart):
        return ("cut",)
    ledger = ledger_in_span(apart, low, width)
    if ledger is None:
        raise NotMade()
    return ("told", ledger)


def whole_span(one, other, low, width):
    """Return the first open range of a talk: a tuple (low, width, and the parts of one, other and their difference)."""
    return (low, width, one, other, less(one, other))


def needed_number(each):
    """Return the least number with which an open range is told.

    sure tells the difference if its keys and those of both parts together are at
    most as many as the sums, and in_span tells it if the width is; both are right,
    so they tell the same.
    """
    _, width, one, other, apart = each
    return min(width, len(one) + len(other) + len(apart))


def parted(pairs, middle):
    """Return the parts of a ledger below a key and from there on."""
    below = len([1 for key, amount in pairs if key < middle])
    return pairs[:below], pairs[below:]


def halves(each):
    """Return the two halves of an open range."""
    low, width, one, other, apart = each
    middle = low + width // 2
    one_below, one_above = parted(one, middle)
    other_below, other_above = parted(other, middle)
    apart_below, apart_above = parted(apart, middle)
    return [
        (low, width // 2, one_below, other_below, apart_below),
        (middle, width - width // 2, one_above, other_above, apart_above)]


def opened(row, number):
    """Return the ranges that are open in the round behind a round of open ranges."""
    return [half for each in row if needed_number(each) > number for half in halves(each)]


def talk(one, other, *, number, low, width):
    """Return the talk of two ledgers: its rounds, each one a list of the tuples (low, width, verdict)."""
    check_ledger(one)
    check_ledger(other)
    check_number(number, 1)
    check_key(low)
    check_width(width, 1)
    check_in_span(one, other, low, width)
    rounds = []
    row = [whole_span(one, other, low, width)]
    while row:
        rounds.append([
            (each[0], each[1], ("cut",) if needed_number(each) > number else ("told", each[4])) for each in row])
        row = opened(row, number)
    return rounds


def talk_cost(rounds, number):
    """Return how many integers both stores have told in a talk."""
    check_talk(rounds)
    check_number(number, 1)
    return 2 * (number + 1) * sum([len(row) for row in rounds])


def needed_numbers(one, other, low, width):
    """Return for each round of the longest talk, the one with the number 1, the least numbers of its ranges.

    A half never needs more than the whole. So the ranges of a talk with any
    number are the whole span and the halves of all ranges that need more.
    """
    rounds = []
    row = [whole_span(one, other, low, width)]
    while row:
        rounds.append([needed_number(each) for each in row])
        row = opened(row, 1)
    return rounds


def least_number(one, other, *, rounds, low, width):
    """Return the least number with which the talk of two ledgers has at most so many rounds."""
    check_ledger(one)
    check_ledger(other)
    check_number(rounds, 1)
    check_key(low)
    check_width(width, 1)
    check_in_span(one, other, low, width)
    needed = needed_numbers(one, other, low, width)
    return max([1] + needed[rounds - 1]) if rounds <= len(needed) else 1


def least_cost(one, other, *, low, width):
    """Return the number with which the talk of two ledgers has the least cost, of several the least."""
    check_ledger(one)
    check_ledger(other)
    check_key(low)
    check_width(width, 1)
    check_in_span(one, other, low, width)
    needed = [least for row in needed_numbers(one, other, low, width) for least in row]
    # From the number that the whole span needs on there is one range, so no greater number costs less.
    costs = [
        ((1 + 2 * len([least for least in needed if least > number])) * (number + 1), number)
        for number in range(1, max(1, needed[0]) + 1)]
    return min(costs)[1]


def worst_rounds(number, *, width, most):
    """Return the greatest number of rounds over all pairs of ledgers with at most so many keys in such a span."""
    check_number(number, 1)
    check_width(width, 1)
    check_number(most, 0)
    rounds = 1
    # In a range of a width above number the keys of two ledgers and of their difference
    # may be 4 * most, or more than the width. All of them may lie in the last range that is cut.
    while width > number and 4 * most > number:
        rounds = rounds + 1
        width = width - width // 2
    return rounds


def ranges(number, *, low, width):
    """Give the ranges (low, width) of a talk in which each range wider than number is cut, round by round."""
    check_number(number, 1)
    check_key(low)
    check_width(width, 1)
    row = [(low, width, (), (), ())]
    while row:
        for each in row:
            yield (each[0], each[1])
        row = [half for each in row if each[1] > number for half in halves(each)]


def surely_same(one, many, other, other_many, *, firm=False):
    """Return whether two stores surely have the same ledger, None if that is not sure."""
    check_tellings(one, many, other, other_many)
    if len(one) != len(other):
        raise OtherLength()
    if one != other:
        return False
    if many + other_many <= len(one):
        return True
    if firm is True and 2 * min(many, other_many) < len(one):
        return True
    return None
