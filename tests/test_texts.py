"""Points 1 to 3 and 39: texts."""

import itertools
import re
import sys
import unittest

from changesums.errors import InvalidLedger, InvalidSums, InvalidText
from changesums.texts import format_ledger, format_sums, parse_ledger, parse_sums
from support import (
    NOT_LEDGERS, NOT_SUMS, assert_error, check_named, check_wrong, small_ledgers)

TOP = 10 ** 15 - 1
INTEGER = "(0|-?[1-9][0-9]*)"
LEDGERS = [
    ((), "-"), (((0, 1),), "0:+1"), (((0, -1),), "0:-1"), (((-1, 3), (5, 3)), "-1:+3 5:+3"),
    (((-4, 1), (0, -20)), "-4:+1 0:-20"), (((10, 10), (100, -100)), "10:+10 100:-100"),
    (((-TOP, TOP), (TOP, -TOP)), f"-{TOP}:+{TOP} {TOP}:-{TOP}"), (((-10, -10), (-9, 9), (0, 5)), "-10:-10 -9:+9 0:+5"),
]
SUMS = [
    ((0,), "sums 0"), ((6, -12, 0), "sums 6, -12, 0"), ((-1,), "sums -1"), ((1, 1, 1), "sums 1, 1, 1"),
    ((10, 0, -100), "sums 10, 0, -100"), ((TOP, -TOP), f"sums {TOP}, -{TOP}"),
]
NO_STRINGS = [None, True, False, 0, 1, 1.5, b"", b"-", b"0:+1", b"sums 1", (), ((0, 1),), (1,), [], ["-"], ["0:+1"], {},
              {"-": 1}, {"-"}, object(), str, range(2), iter("-")]
NO_LEDGER_TEXTS = [
    "", " ", "--", "- ", " -", "-\n", "\n", "+", ":", "0", "1", "-1", "0:", ":+1", "0:1", "0:+", "0:-", "0:0", "0:+0", "0:-0",
    "+0:+1", "-0:+1", "+1:+1", "--1:+1", "00:+1", "01:+1", "-01:+1", "0:+01", "0:-01", "0:+00", "0:++1", "0:--1",
    "0:+-1", "0:-+1", "0:+1-", "0:+1 ", " 0:+1", "0:+1\n", "\n0:+1", "0 :+1", "0: +1", "0:+ 1", "0:+1:", "0::+1", "0:+1:+1",
    "0:+1  1:+1", "0:+1\t1:+1", "0:+1,1:+1", "0:+1, 1:+1", "0:+1 1", "0:+1 1:", "0:+1 -", "- 0:+1", "0:+1 1:0", "0:+1 1:+0",
    "1:+1 0:+1", "0:+1 0:+1", "0:+1 0:-1", "-1:+1 -2:+1", "5:+1 -5:+1", "0:+1 2:+1 1:+1", "0:+1 2:+1 2:+1",
    "9:+1 10:+1 9:+1", "10:+1 9:+1", "a:+1", "0:+a", "0:+1a", "0x1:+1", "1e3:+1", "1_0:+1", "0:+1_0", "0:+1.0", "1.0:+1",
    "0:+1 x", "None", "()", "((0, 1),)", "sums 1", "\uff11:+1", "0:+\u0661", "0:+1\u00a01:+1", "\u22121:+1", "0:+\u00b2",
    "0:+1\r", "0:+1\x00", "0:+1 1:+1 ", "0:=1", "0;+1", "0:+1;1:+1", "0:+1 ,1:+1", "-:+1", "-:-1", "0:+1 --1:+1",
]
NO_SUMS_TEXTS = [
    "", " ", "sums", "sums ", "sums  1", " sums 1", "Sums 1", "SUMS 1", "sum 1", "sums1", "sums:1", "sums, 1", "1", "1, 2",
    "sums 1 ", "sums 1\n", "sums\n1", "sums\t1", "sums +1", "sums -0", "sums 00", "sums 01", "sums -01", "sums --1",
    "sums 1,2", "sums 1,  2", "sums 1 2", "sums 1 , 2", "sums 1,", "sums 1, ", "sums , 1", "sums 1, , 2", "sums ,", "sums -",
    "sums 1, -", "sums 1, 2,", "sums 1, +2", "sums 1, 02", "sums 1, -0", "sums 1; 2", "sums a", "sums 1, a", "sums 1.0",
    "sums 1e3", "sums 0x1", "sums 1_0", "sums (1, 2)", "sums \uff11", "sums 1, \u0662", "sums \u22121", "sums sums 1",
    "sums 1, sums 2", "-", "0:+1", "sums 0:+1", "sums 1\n, 2", "sums 1,\n2", "sums 1\u00b2",
]


class LedgerTexts(unittest.TestCase):
    def test_cases(self):
        for ledger, text in LEDGERS:
            check_named(self, format_ledger, ["ledger"], [ledger], text)
            check_named(self, parse_ledger, ["text"], [text], ledger)

    def test_there_and_back(self):
        for ledger in small_ledgers(keys=(-10, -1, 0, 7), amounts=(-11, 0, 1, 20)):
            text = format_ledger(ledger)
            words = [f"{key}:{amount:+d}" for key, amount in ledger]
            self.assertEqual(text, " ".join(words) if words else "-")
            self.assertEqual(parse_ledger(text), ledger)

    def test_all_short_texts(self):
        # Just the texts that are written for some ledger are read.
        form = re.compile(f"-|{INTEGER}:([+-][1-9][0-9]*)")
        for length in range(6):
            for signs in itertools.product("01+-: ", repeat=length):
                text = "".join(signs)
                found = form.fullmatch(text)
                if found is None:
                    assert_error(self, InvalidText, parse_ledger, text)
                elif text == "-":
                    self.assertEqual(parse_ledger(text), ())
                else:
                    self.assertEqual(parse_ledger(text), ((int(found[1]), int(found[2])),))

    def test_sixty_keys(self):
        ledger = tuple((key * 10 ** 13, (-1) ** abs(key) * (TOP - key)) for key in range(-30, 30))
        self.assertEqual(parse_ledger(format_ledger(ledger)), ledger)

    def test_wrong_inputs(self):
        check_wrong(self, format_ledger, [((1, 2),)], [(InvalidLedger, NOT_LEDGERS)])
        check_wrong(self, parse_ledger, ["0:+1"], [(InvalidText, NO_STRINGS + NO_LEDGER_TEXTS)])


class SumsTexts(unittest.TestCase):
    def test_cases(self):
        for sums, text in SUMS:
            check_named(self, format_sums, ["sums"], [sums], text)
            check_named(self, parse_sums, ["text"], [text], sums)

    def test_there_and_back(self):
        for length in (1, 2, 3):
            for sums in itertools.product((-11, -1, 0, 1, 20), repeat=length):
                text = format_sums(sums)
                self.assertEqual(text, "sums " + ", ".join(map(str, sums)))
                self.assertEqual(parse_sums(text), sums)

    def test_all_short_ends(self):
        form = re.compile(f"sums {INTEGER}(, {INTEGER})*")
        for length in range(6):
            for signs in itertools.product("01-, ", repeat=length):
                text = "sums " + "".join(signs)
                if form.fullmatch(text) is None:
                    assert_error(self, InvalidText, parse_sums, text)
                else:
                    self.assertEqual(parse_sums(text), tuple(map(int, text[5:].split(", "))))

    def test_wrong_inputs(self):
        check_wrong(self, format_sums, [(1, 2)], [(InvalidSums, NOT_SUMS)])
        check_wrong(self, parse_sums, ["sums 1"], [(InvalidText, NO_STRINGS + NO_SUMS_TEXTS)])


class ManyDigits(unittest.TestCase):
    """Integers of any size are written and read, also such that Python itself refuses to."""

    def test_as_many_as_a_text_holds(self):
        for digits in (1, 999, 1000, 1001, 2000, 2990):
            for text in ("1" + "0" * (digits - 1), "9" * digits, "7" * digits):
                number = int(text)
                for value, signs in ((number, text), (-number, "-" + text)):
                    self.assertEqual(format_sums((value,)), "sums " + signs)
                    self.assertEqual(parse_sums("sums " + signs), (value,))
                    self.assertEqual(parse_ledger(signs + ":+1"), ((value, 1),))
                    amount = signs if value < 0 else "+" + signs
                    self.assertEqual(parse_ledger("0:" + amount), ((0, value),))
                    self.assertEqual(format_ledger(((0, value),)), "0:" + amount)
            assert_error(self, InvalidText, parse_sums, "sums 0" + "1" * digits)
            assert_error(self, InvalidText, parse_sums, "sums 1" + "0" * digits + "a")

    def test_still_more(self):
        number = 7 ** 12000
        text = format_sums((number, -number))
        self.assertEqual(parse_sums(text), (number, -number))
        limit = sys.get_int_max_str_digits()
        sys.set_int_max_str_digits(0)
        try:
            self.assertEqual(text, f"sums {number}, {-number}")
        finally:
            sys.set_int_max_str_digits(limit)
        ledger = ((-number, number), (number, -number))
        self.assertEqual(parse_ledger(format_ledger(ledger)), ledger)


if __name__ == "__main__":
    unittest.main()
