"""Logs, which are lists of changes made one behind the other."""

from changesums.errors import OtherLength
from changesums.integers import check_number
from changesums.ledgers import changed_in, check_changes, check_ledger, less, summed
from changesums.sums import check_rows, first_sums


def ledger_after(ledger, log):
    """Return the ledger after the changes of a log."""
    check_ledger(ledger)
    check_changes(log)
    return summed(list(ledger) + log)


def short_log(one, other):
    """Return the log with the fewest changes that leads from one ledger to the other, ascending by keys."""
    return list(less(other, one))


def sums_behind(sums, change):
    """Return the sums after one more change."""
    return tuple([number + by for number, by in zip(sums, first_sums((change,), len(sums)))])


def sums_along(ledger, log, number):
    """Return the list of the sums before the first change and after each change."""
    check_ledger(ledger)
    check_changes(log)
    check_number(number, 1)
    found = [first_sums(ledger, number)]
    for change in log:
        found.append(sums_behind(found[-1], change))
    return found


def log_fault(ledger, log, rows):
    """Return the least index of a row that is not the sums after so many changes, None if there is none."""
    check_ledger(ledger)
    check_changes(log)
    check_rows(rows)
    if len(rows) != len(log) + 1:
        raise OtherLength()
    sums = first_sums(ledger, len(rows[0]))
    for index, change in enumerate(log):
        if rows[index] != sums:
            return index
        sums = sums_behind(sums, change)
    return None if rows[-1] == sums else len(log)


def common_log(one, other):
    """Return the longest log that is a beginning of both logs."""
    check_changes(one)
    check_changes(other)
    many = 0
    while many < min(len(one), len(other)) and one[many] == other[many]:
        many = many + 1
    return one[:many]


def shortest_undo(log):
    """Return the short log that leads back from the ledger after the log to the ledger before it."""
    check_changes(log)
    return [(key, -amount) for key, amount in summed(log)]


def first_return(log):
    """Return the least number of changes, from 1 on, behind which the ledger is as before the log, or None."""
    check_changes(log)
    apart = {}
    for index, (key, by) in enumerate(log):
        changed_in(apart, key, by)
        if len(apart) == 0:
            return index + 1
    return None
