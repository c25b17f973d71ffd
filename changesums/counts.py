"""Counts, which are ledgers without amounts below 0, and when one is the only count with its sums."""

from math import lcm

from changesums.errors import NotACount
from changesums.integers import check_number
from changesums.ledgers import check_ledger, summed
from changesums.polynomials import from_roots
from changesums.sums import check_sums
from changesums.told import ledger_told


def is_count(ledger):
    """Return whether a checked ledger has no amount below 0."""
    return all([amount > 0 for key, amount in ledger])


def check_count(ledger):
    """Raise NotACount for a checked ledger with an amount below 0."""
    if not is_count(ledger):
        raise NotACount()


def runs(ledger):
    """Return the ascending list of the tuples (first, length) of the rows of neighbouring keys."""
    check_ledger(ledger)
    found = []
    for key, _ in ledger:
        if found and found[-1][0] + found[-1][1] == key:
            found[-1] = (found[-1][0], found[-1][1] + 1)
        else:
            found.append((key, 1))
    return found


def half_cover(ledger):
    """Return the sum of the halves, rounded up, of the lengths of all runs."""
    return sum([(length + 1) // 2 for first, length in runs(ledger)])


def cover(ledger):
    """Return the polynomial that is 0 at the keys of the ledger and above 0 at all other integers."""
    ends = [first + length - 1 for first, length in runs(ledger) if length % 2 == 1]
    return from_roots([key for key, amount in ledger] + ends)


def sure_count(sums):
    """Return the ledger told if it is the only count, of any number of keys, that has the sums, or None."""
    check_sums(sums)
    ledger = ledger_told(sums)
    if ledger is None or not is_count(ledger) or len(sums) <= 2 * half_cover(ledger):
        return None
    return ledger


def needed_count(ledger):
    """Return the least number of sums of which each multiple of the count is the only count that has them."""
    check_ledger(ledger)
    check_count(ledger)
    return 2 * half_cover(ledger) + 1


def marked_keys(ledger):
    """Return the first key of each run and every second one behind it."""
    return [first + 2 * k for first, length in runs(ledger) for k in range((length + 1) // 2)]


def blind_at(places):
    """Return the ledger with all of these keys, above 0 at the first, whose sums but the last of so many are 0.

    Its amounts have no common divisor. They are above and below 0 by turns.
    """
    bottoms = []
    for place in places:
        bottom = 1
        for other in places:
            bottom = bottom * (place - other if other != place else 1)
        bottoms.append(bottom)
    shared = 1
    for bottom in bottoms:
        shared = lcm(shared, bottom)
    factor = shared if bottoms[0] > 0 else -shared
    return [(place, factor // bottom) for place, bottom in zip(places, bottoms)]


def rival(ledger, number):
    """Return the tuple (t, other) of another count with so many sums of t times the count, None if there is none."""
    check_ledger(ledger)
    check_number(number, 1)
    check_count(ledger)
    marked = marked_keys(ledger)
    if number > 2 * len(marked):
        return None
    row = [marked[0] - 1] + [place for key in marked for place in (key, key + 1)]
    apart = blind_at(row[:number + 1])
    table = dict(ledger)
    # The second, the fourth .. places of the row are the marked keys, so the ledger has them.
    many = max([-(by // table[key]) for key, by in apart if by < 0])
    return many, summed([(key, many * amount) for key, amount in ledger] + apart)
