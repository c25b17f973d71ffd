"""Points 1 to 3, 37 and 38: logs."""

import itertools
import random
import unittest

from changesums.errors import InvalidChanges, InvalidLedger, InvalidNumber, InvalidRows, OtherLength
from changesums.ledgers import is_ledger
from changesums.logs import (
    common_log, first_return, ledger_after, log_fault, short_log, shortest_undo, sums_along)
from support import (
    NOT_CHANGES, NOT_INTEGERS, NOT_LEDGERS, NOT_ROWS, assert_error, check_named, check_new_lists, check_wrong,
    ledger_from, others, plain_sums, small_ledgers)

TOP = 10 ** 15 - 1
A = ((-1, 3), (5, 3))
LEDGERS = small_ledgers()
CHANGES = [(0, 1), (0, -1), (0, 0), (3, 2)]
LOGS = [list(log) for many in range(5) for log in itertools.product(CHANGES, repeat=many)]
NOT_NUMBERS = others(NOT_INTEGERS, 1)


def plain_after(ledger, log):
    """Return the ledger after a log, one change behind the other."""
    table = dict(ledger)
    for key, by in log:
        table[key] = table.get(key, 0) + by
    return ledger_from(table)


def long_log(seed, many):
    chosen = random.Random(seed)
    return [(chosen.choice([-TOP, -3, 0, 5, TOP]), chosen.choice([-TOP, -1, 0, 1, TOP])) for _ in range(many)]


class After(unittest.TestCase):
    """Point 37: ledger_after and short_log."""

    def test_cases(self):
        for ledger, log, found in [
                ((), [], ()), (A, [], A), ((), [(1, 2)], ((1, 2),)), (A, [(5, -3)], ((-1, 3),)), (A, [(5, 0)], A),
                (A, [(0, 0)], A), (A, [(0, 1), (0, -1)], A), (A, [(5, -3), (5, 3)], A), (A, [(-1, -3), (5, -3)], ()),
                (A, [(9, 1), (-9, 1)], ((-9, 1), (-1, 3), (5, 3), (9, 1))), (((TOP, TOP),), [(-TOP, -TOP)], ((-TOP, -TOP), (TOP, TOP)))]:
            check_named(self, ledger_after, ["ledger", "log"], [ledger, log], found)

    def test_all_small_logs(self):
        for ledger in LEDGERS[::7]:
            for log in LOGS:
                self.assertEqual(ledger_after(ledger, log), plain_after(ledger, log))

    def test_short_log(self):
        for one, other, log in [
                ((), (), []), (A, A, []), ((), A, [(-1, 3), (5, 3)]), (A, (), [(-1, -3), (5, -3)]),
                (A, ((0, 1), (5, 4)), [(-1, -3), (0, 1), (5, 1)])]:
            check_named(self, short_log, ["one", "other"], [one, other], log)
        for one, other in itertools.product(LEDGERS[::2], repeat=2):
            log = short_log(one, other)
            self.assertEqual(plain_after(one, log), other)
            self.assertTrue(is_ledger(tuple(log)))
        check_new_lists(self, short_log, [(), A])
        check_new_lists(self, short_log, [A, A])

    def test_wrong_inputs(self):
        check_wrong(self, ledger_after, [A, [(1, 2)]], [(InvalidLedger, NOT_LEDGERS), (InvalidChanges, NOT_CHANGES)])
        check_wrong(self, short_log, [A, ()], [(InvalidLedger, NOT_LEDGERS)] * 2)


class Along(unittest.TestCase):
    """Point 37: sums_along and log_fault."""

    def test_sums_along(self):
        check_named(self, sums_along, ["ledger", "log", "number"], [A, [], 2], [(6, 12)])
        check_named(self, sums_along, ["ledger", "log", "number"], [A, [(5, -3), (0, 0), (-1, 1)], 3],
                    [(6, 12, 78), (3, -3, 3), (3, -3, 3), (4, -4, 4)])
        check_named(self, sums_along, ["ledger", "log", "number"], [(), [(0, 5)], 1], [(0,), (5,)])
        for ledger in LEDGERS[::9]:
            for log in LOGS[::3]:
                for number in (1, 2, 5):
                    self.assertEqual(sums_along(ledger, log, number), [
                        plain_sums(plain_after(ledger, log[:many]), number) for many in range(len(log) + 1)])
        check_new_lists(self, sums_along, [A, [(1, 2)], 2])

    def test_at_the_limits(self):
        log = long_log(1, 400)
        rows = sums_along(A, log, 12)
        self.assertEqual(len(rows), 401)
        self.assertEqual(rows[-1], plain_sums(plain_after(A, log), 12))
        self.assertEqual(rows[200], plain_sums(plain_after(A, log[:200]), 12))
        log = log[:399]
        for number in (1, 40):
            rows = sums_along(A, log, number)
            self.assertIsNone(log_fault(A, log, rows))
            for at in (0, 1, 200, 399):
                wrong = rows[:at] + [(rows[at][0] + 1,) + rows[at][1:]] + rows[at + 1:]
                self.assertEqual(log_fault(A, log, wrong), at)

    def test_log_fault(self):
        log = [(5, -3), (0, 0), (-1, 1)]
        rows = [(6, 12, 78), (3, -3, 3), (3, -3, 3), (4, -4, 4)]
        check_named(self, log_fault, ["ledger", "log", "rows"], [A, log, rows], None)
        check_named(self, log_fault, ["ledger", "log", "rows"], [A, [], [(6,)]], None)
        check_named(self, log_fault, ["ledger", "log", "rows"], [A, [], [(7,)]], 0)
        for at in range(4):
            for j in range(3):
                row = rows[at][:j] + (rows[at][j] + 1,) + rows[at][j + 1:]
                self.assertEqual(log_fault(A, log, rows[:at] + [row] + rows[at + 1:]), at)
                self.assertEqual(log_fault(A, log, rows[:at] + [row] * (4 - at)), at)
        self.assertEqual(log_fault((), log, rows), 0)
        self.assertEqual(log_fault(A, [(5, -3), (0, 1), (-1, 1)], rows), 2)
        self.assertEqual(log_fault(A, log[:2] + [(-1, 2)], rows), 3)

    def test_wrong_inputs(self):
        first = [(InvalidLedger, NOT_LEDGERS), (InvalidChanges, NOT_CHANGES)]
        check_wrong(self, sums_along, [A, [(1, 2)], 3], first + [(InvalidNumber, NOT_NUMBERS)])
        check_wrong(self, log_fault, [A, [(1, 2)], [(6,), (8,)]], first + [(InvalidRows, NOT_ROWS)])

    def test_other_lengths(self):
        for log, rows in [([], [(6,), (6,)]), ([(1, 2)], [(6,)]), ([(1, 2)], [(6,)] * 3), ([(1, 2)] * 5, [(0, 0)] * 5)]:
            assert_error(self, OtherLength, log_fault, A, log, rows)
            assert_error(self, InvalidRows, log_fault, A, log, rows + [(1, 2, 3)])
            assert_error(self, InvalidChanges, log_fault, A, tuple(log), rows)
            assert_error(self, InvalidLedger, log_fault, list(A), log, rows)


class Beginnings(unittest.TestCase):
    """Point 38."""

    def test_common_log(self):
        x, y, z = (0, 1), (0, -1), (3, 2)
        for one, other, found in [
                ([], [], []), ([x], [], []), ([], [x], []), ([x], [x], [x]), ([x], [y], []), ([x, y], [x], [x]),
                ([x], [x, y], [x]), ([x, y, z], [x, z, y], [x]), ([x, y, z], [x, y, y], [x, y]), ([x, x], [x, x], [x, x]),
                ([y, x], [x, x], []), ([(0, 0)], [(0, 0), x], [(0, 0)]), ([(1, 0)], [(0, 1)], [])]:
            check_named(self, common_log, ["one", "other"], [one, other], found)
        for one, other in itertools.product(LOGS[::5], repeat=2):
            found = common_log(one, other)
            self.assertEqual(found, one[:len(found)])
            self.assertEqual(found, other[:len(found)])
            more = len(found) + 1
            self.assertTrue(more > min(len(one), len(other)) or one[:more] != other[:more])
        log = [x, y]
        self.assertIsNot(common_log(log, log), log)
        check_new_lists(self, common_log, [log, log])
        many = long_log(2, 400)
        self.assertEqual(common_log(many, many[:399] + [(1, 1)]), many[:399])

    def test_shortest_undo(self):
        for log, found in [
                ([], []), ([(1, 2)], [(1, -2)]), ([(1, 2), (1, -2)], []), ([(1, 0)], []), ([(3, 1), (-1, 2), (3, 4)], [(-1, -2), (3, -5)]),
                ([(2, 5), (2, -5), (0, -1)], [(0, 1)])]:
            check_named(self, shortest_undo, ["log"], [log], found)
        for log in LOGS:
            back = shortest_undo(log)
            self.assertTrue(is_ledger(tuple(back)))
            for ledger in (LEDGERS[0], LEDGERS[-1]):
                self.assertEqual(plain_after(plain_after(ledger, log), back), ledger)
        check_new_lists(self, shortest_undo, [[(1, 2), (0, 1)]])

    def test_first_return(self):
        for log, found in [
                ([], None), ([(1, 2)], None), ([(1, 0)], 1), ([(1, 0), (1, 0)], 1), ([(1, 2), (1, -2)], 2),
                ([(1, 2), (1, -1)], None), ([(1, 2), (3, 4), (1, -2), (3, -4)], 4), ([(1, 2), (1, -2), (0, 1), (0, -1)], 2),
                ([(1, 2), (0, 0), (1, -2)], 3), ([(1, 1), (1, 1), (2, 1), (1, -2), (2, -1), (5, 5)], 5),
                ([(TOP, TOP), (TOP, -TOP)], 2), ([(1, 2), (2, -2)], None)]:
            check_named(self, first_return, ["log"], [log], found)
        for log in LOGS:
            expected = next((many for many in range(1, len(log) + 1) if plain_after(A, log[:many]) == A), None)
            self.assertEqual(first_return(log), expected)
        half = [(key * key, key + 1) for key in range(200)]
        self.assertEqual(first_return(half + [(key, -by) for key, by in half]), 400)

    def test_wrong_inputs(self):
        check_wrong(self, common_log, [[(1, 2)], []], [(InvalidChanges, NOT_CHANGES)] * 2)
        for function in (shortest_undo, first_return):
            check_wrong(self, function, [[(1, 2)]], [(InvalidChanges, NOT_CHANGES)])


if __name__ == "__main__":
    unittest.main()
