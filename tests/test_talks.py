"""Points 1 to 3 and 33 to 36: talks of two stores."""

import itertools
import random
import unittest

from changesums.briefs import in_span
from changesums.errors import (
    InvalidKey, InvalidLedger, InvalidNumber, InvalidSums, InvalidTalk, InvalidWidth, NotMade, OtherLength, OutOfSpan)
from changesums.ledgers import added, less, part
from changesums.sums import sums_less
from changesums.talks import (
    least_cost, least_number, ranges, surely_same, talk, talk_cost, verdict, worst_rounds)
from changesums.told import sure
from support import (
    NOT_INTEGERS, NOT_LEDGERS, NOT_SUMS, as_list, assert_error, check_named, check_new_lists, check_star, check_wrong,
    ledger_from, others, plain_sums, small_ledgers)

TOP = 10 ** 15 - 1
ONE = ((1, 1), (6, 2))
OTHER = ((1, 1), (7, 2))
NOT_NUMBERS = others(NOT_INTEGERS, 1)
NOT_FROM_ZERO = others(NOT_INTEGERS, 0)
SPAN_ERRORS = [(InvalidKey, NOT_INTEGERS), (InvalidWidth, NOT_NUMBERS)]
NOT_TALKS = [
    None, True, False, 0, 1, "", "ab", b"", (), ([],), {}, {1: []}, object(), list, iter([]), range(2),
    [1], [None], [()], ["a"], [{}], [[], ()], [[], 1], [[1]], [[None]], [[()]], [["cut"]], [[[]]],
    [[(0, 8)]], [[(0, 8, ("cut",), 1)]], [[[0, 8, ("cut",)]]], [[(0, 8, "cut")]], [[(0, 8, ["cut"])]],
    [[(0, 8, ())]], [[(0, 8, ("cut", ()))]], [[(0, 8, ("told",))]], [[(0, 8, ("told", (), ()))]],
    [[(0, 8, ("Cut",))]], [[(0, 8, ("tell", ()))]], [[(0, 8, (1,))]], [[(0, 8, (None, ()))]], [[(0, 8, (("cut",),))]],
    [[(True, 8, ("cut",))]], [[(0.0, 8, ("cut",))]], [["0", 8, ("cut",)]], [[(None, 8, ("cut",))]],
    [[(0, 0, ("cut",))]], [[(0, -1, ("cut",))]], [[(0, True, ("cut",))]], [[(0, 8.0, ("cut",))]], [[(0, None, ("cut",))]],
    [[(0, 8, ("told", None))]], [[(0, 8, ("told", []))]], [[(0, 8, ("told", ((1, 0),)))]],
    [[(0, 8, ("told", ((2, 1), (1, 1))))]], [[(0, 8, ("told", ((1, True),)))]], [[(0, 8, (b"cut",))]],
    [[(0, 8, ("cut",))], [(0, 4, ("cut",)), (4, 4, ("told", [])) ]], [[(0, 8, ("cut",)), 5]], [[(0, 8, ("cut",))], None],
    [[], [(0, 0, ("cut",))]],
]
ranges_of = as_list(ranges)


def plain_verdict(one, other, number, low, width):
    """Return the verdict for a range, by the words of point 33."""
    mine, yours = part(one, low, width), part(other, low, width)
    apart = sums_less(plain_sums(mine, number), plain_sums(yours, number))
    ledger = sure(apart, len(mine) + len(yours))
    if ledger is not None:
        return ("told", ledger)
    if width <= number:
        return ("told", in_span(apart, low, width))
    return ("cut",)


def plain_talk(one, other, number, low, width):
    """Return the talk of two ledgers, by the words of points 33 and 34."""
    rounds, row = [], [(low, width)]
    while row:
        told = [(start, many, plain_verdict(one, other, number, start, many)) for start, many in row]
        rounds.append(told)
        row = []
        for start, many, found in told:
            if found == ("cut",):
                row += [(start, many // 2), (start + many // 2, many - many // 2)]
    return rounds


def plain_cost(rounds, number):
    return sum(2 * (number + 1) for row in rounds for _ in row)


def pairs_of_ledgers(seed, many, low, width, keys):
    """Return pairs of ledgers in a span, with shared and other keys."""
    chosen = random.Random(seed)
    found = []
    for _ in range(many):
        places = [chosen.randrange(low, low + width) for _ in range(keys)]
        one = ledger_from({key: chosen.randrange(-2, 3) for key in chosen.sample(places, chosen.randint(0, keys))})
        other = ledger_from({key: chosen.randrange(-2, 3) for key in chosen.sample(places, chosen.randint(0, keys))})
        found.append((one, other))
    return found


PAIRS = pairs_of_ledgers(1, 60, -3, 17, 8)
FAR = pairs_of_ledgers(2, 6, -TOP, 2 * TOP, 20)
SIXTY = tuple((k * k, k + 1) for k in range(60))
OTHERS = tuple((k * k + k % 3, k + 1) for k in range(60))


class Verdicts(unittest.TestCase):
    """Point 33."""

    NAMES = ["one", "many", "other", "other_many", "low", "width"]

    def test_cases(self):
        for one, many, other, other_many, low, width, found in [
                ((5,), 1, (5,), 0, 0, 8, ("told", ())), ((5,), 1, (5,), 1, 0, 8, ("cut",)),
                ((5,), 1, (5,), 1, 4, 1, ("told", ())), ((5,), 1, (3,), 1, 4, 1, ("told", ((4, 2),))),
                ((5,), 0, (3,), 0, 4, 1, ("told", ((4, 2),))), ((5,), 0, (3,), 0, 4, 2, ("cut",)),
                ((2, 14), 1, (0, 0), 0, 0, 100, ("told", ((7, 2),))), ((2, 14), 1, (0, 0), 1, 0, 100, ("cut",)),
                ((2, 14), 1, (0, 0), 0, 50, 3, ("told", ((7, 2),))), ((2, 14), 0, (0, 0), 0, 50, 1, ("told", ((7, 2),))),
                ((2, 14), 1, (0, 0), 1, 6, 2, ("told", ((7, 2),))), ((2, 14), 2, (0, 0), 0, 7, 2, ("told", ((7, 2),))),
                ((0, 0), 0, (0, 0), 0, 0, 9, ("told", ())), ((0, 0), 1, (0, 0), 1, 0, 9, ("told", ())),
                ((0, 0), 1, (0, 0), 2, 0, 9, ("cut",)), ((0, 0), 99, (0, 0), 99, 0, 2, ("told", ())),
                ((1, 2, 4, 9), 0, (0, 0, 0, 0), 0, 0, 5, ("cut",)), ((1, 2, 4), 0, (0, 0, 0), 0, 0, 4, ("told", ((2, 1),))),
                ((1, 2, 4), 1, (0, 0, 0), 1, 0, 4, ("told", ((2, 1),))), ((1, 2, 4), 1, (0, 0, 0), 2, 0, 4, ("cut",)),
                ((1, 2, 4), 1, (0, 0, 0), 2, 0, 3, ("told", ((2, 1),)))]:
            check_named(self, verdict, self.NAMES, [one, many, other, other_many, low, width], found)
        check_star(self, verdict, [(5,), 1, (5,), 0, 0, 8])

    def test_by_the_words_of_the_point(self):
        for one, other in PAIRS[:20]:
            for number in (1, 2, 3, 5, 8, 16, 17):
                for low, width in [(-3, 17), (-3, 8), (5, 9), (0, 2), (4, 1)]:
                    mine, yours = part(one, low, width), part(other, low, width)
                    found = verdict(plain_sums(mine, number), len(mine), plain_sums(yours, number), len(yours),
                                    low=low, width=width)
                    self.assertEqual(found, plain_verdict(one, other, number, low, width))

    def test_not_made(self):
        for one, low, width in [((0, 0, 1), 0, 3), ((1, 5), 0, 1), ((5, 1), 7, 1), ((0, 1, 0), 3, 3), ((1, 2, 5), 0, 2)]:
            zero = (0,) * len(one)
            assert_error(self, NotMade, verdict, one, 9, zero, 9, low=low, width=width)
            assert_error(self, NotMade, verdict, zero, 9, one, 9, low=low, width=width)
            self.assertEqual(verdict(one, 9, zero, 9, low=low, width=len(one) + 1), ("cut",))

    def test_wrong_inputs(self):
        wrong = [(InvalidSums, NOT_SUMS), (InvalidNumber, NOT_FROM_ZERO)] * 2 + SPAN_ERRORS
        check_wrong(self, verdict, [(5,), 1, (5,), 0, 0, 8], wrong)
        for one, other in [((1,), (1, 2)), ((1, 2), (1,)), ((0, 0, 1), (0, 0))]:
            assert_error(self, OtherLength, verdict, one, 9, other, 9, low=0, width=2)
            assert_error(self, InvalidWidth, verdict, one, 9, other, 9, low=0, width=0)
            assert_error(self, InvalidKey, verdict, one, 9, other, 9, low=False, width=0)
            assert_error(self, InvalidNumber, verdict, one, 9, other, -1, low=False, width=0)


class Talks(unittest.TestCase):
    """Point 34."""

    NAMES = ["one", "other", "number", "low", "width"]

    def test_cases(self):
        cut = ("cut",)
        for one, other, number, low, width, rounds in [
                (ONE, OTHER, 4, 0, 8,
                 [[(0, 8, cut)], [(0, 4, ("told", ())), (4, 4, ("told", ((6, 2), (7, -2))))]]),
                (ONE, OTHER, 6, 0, 8, [[(0, 8, ("told", ((6, 2), (7, -2))))]]), ((), (), 1, 0, 1, [[(0, 1, ("told", ()))]]),
                ((), (), 1, -5, TOP, [[(-5, TOP, ("told", ()))]]), (((3, 1),), (), 2, 0, 99, [[(0, 99, ("told", ((3, 1),)))]]),
                ((), ((3, 1),), 2, 0, 99, [[(0, 99, ("told", ((3, -1),)))]]), (((3, 5),), ((3, 2),), 1, 3, 1,
                                                                             [[(3, 1, ("told", ((3, 3),)))]]),
                (((2, 1),), (), 1, 0, 3, [
                    [(0, 3, cut)], [(0, 1, ("told", ())), (1, 2, cut)], [(1, 1, ("told", ())), (2, 1, ("told", ((2, 1),)))]]),
                (((0, 1),), ((0, 1),), 1, 0, 3, [
                    [(0, 3, cut)], [(0, 1, ("told", ())), (1, 2, ("told", ()))]])]:
            check_named(self, talk, self.NAMES, [one, other, number, low, width], rounds)
        check_star(self, talk, [ONE, OTHER, 4, 0, 8])

    def test_by_the_words_of_the_points(self):
        for one, other in PAIRS:
            for number in (1, 2, 3, 4, 7, 12, 16, 17, 24):
                rounds = talk(one, other, number=number, low=-3, width=17)
                self.assertEqual(rounds, plain_talk(one, other, number, -3, 17))
        for one, other in FAR:
            for number in (1, 3, 12, 24):
                rounds = talk(one, other, number=number, low=-TOP, width=2 * TOP)
                self.assertEqual(rounds, plain_talk(one, other, number, -TOP, 2 * TOP))

    def test_odd_widths(self):
        for width in range(1, 14):
            for number in (1, 2, 3):
                one = tuple((key, key + 1) for key in range(width))
                other = tuple((key, 1) for key in range(0, width, 2))
                self.assertEqual(talk(one, other, number=number, low=0, width=width),
                                 plain_talk(one, other, number, 0, width))

    def test_what_is_told_is_the_difference(self):
        for one, other in PAIRS + FAR + [(SIXTY, OTHERS), (OTHERS, SIXTY), (SIXTY, SIXTY), (SIXTY, ())]:
            for number in (1, 2, 5, 24):
                rounds = talk(one, other, number=number, low=-TOP, width=2 * TOP)
                told = [found[1] for row in rounds for _, _, found in row if found[0] == "told"]
                self.assertEqual(added(*told), less(one, other))
                self.assertTrue(all(found[0] == "told" for _, _, found in rounds[-1]))
                for row in rounds:
                    self.assertEqual([each[0] for each in row], sorted(each[0] for each in row))

    def test_cost(self):
        rounds = talk(ONE, OTHER, number=4, low=0, width=8)
        check_named(self, talk_cost, ["rounds", "number"], [rounds, 4], 30)
        check_named(self, talk_cost, ["rounds", "number"], [[], 4], 0)
        for rounds, number, cost in [
                ([[]], 1, 0), ([[], []], 40, 0), ([[(0, 8, ("cut",))]], 1, 4), ([[(0, 8, ("told", ()))]], 24, 50),
                ([[(-5, 1, ("cut",)), (-5, 1, ("told", ((3, -1),)))], [], [(TOP, TOP, ("cut",))]], 2, 18)]:
            self.assertEqual(talk_cost(rounds, number), cost)
        for one, other in PAIRS[:20]:
            for number in (1, 4, 9):
                rounds = talk(one, other, number=number, low=-3, width=17)
                self.assertEqual(talk_cost(rounds, number), plain_cost(rounds, number))

    def test_new_lists(self):
        def first(number):
            return talk(ONE, OTHER, number=number, low=0, width=8)
        check_new_lists(self, first, [4])
        rounds = first(1)
        rounds[1].append("more")
        self.assertEqual(first(1), plain_talk(ONE, OTHER, 1, 0, 8))
        self.assertEqual(len(set(map(id, rounds))), len(rounds))

    def test_wrong_inputs(self):
        ledgers = [(InvalidLedger, NOT_LEDGERS)] * 2
        check_wrong(self, talk, [ONE, OTHER, 4, 0, 8], ledgers + [(InvalidNumber, NOT_NUMBERS)] + SPAN_ERRORS)
        check_wrong(self, talk_cost, [[[(0, 8, ("cut",))]], 4], [(InvalidTalk, NOT_TALKS), (InvalidNumber, NOT_NUMBERS)])


class OutOfSpans(unittest.TestCase):
    """Point 34 and 35: keys out of the span."""

    def test_keys_out_of_the_span(self):
        inside = ((0, 1), (7, 1))
        for wrong in [((-1, 1),), ((8, 1),), ((-1, 1), (0, 1)), ((7, 1), (8, 1)), ((-TOP, 1), (0, 1), (TOP, 1)),
                      ((0, 1), (3, 1), (8, -1))]:
            for one, other in [(wrong, inside), (inside, wrong), (wrong, wrong), (wrong, ()), ((), wrong)]:
                span = {"low": 0, "width": 8}
                assert_error(self, OutOfSpan, talk, one, other, number=9, **span)
                assert_error(self, OutOfSpan, least_number, one, other, rounds=9, **span)
                assert_error(self, OutOfSpan, least_cost, one, other, **span)
                assert_error(self, InvalidNumber, talk, one, other, number=0, low=0, width=0)
                assert_error(self, InvalidWidth, talk, one, other, number=9, low=0, width=0)
                assert_error(self, InvalidKey, least_number, one, other, rounds=9, low="", width=0)
                assert_error(self, InvalidWidth, least_cost, one, other, low=0, width=0)
        talk(inside, inside, number=1, low=0, width=8)
        talk(inside, inside, number=1, low=-1, width=9)


class LeastNumbers(unittest.TestCase):
    """Point 35."""

    def test_least_number(self):
        self.assertEqual(least_number(ONE, OTHER, rounds=1, low=0, width=8), 6)
        check_named(self, least_number, ["one", "other", "rounds", "low", "width"], [ONE, OTHER, 2, 0, 8], 4)
        check_star(self, least_number, [ONE, OTHER, 2, 0, 8])
        for one, other in PAIRS:
            lengths = [len(plain_talk(one, other, number, -3, 17)) for number in range(1, 20)]
            for rounds in (1, 2, 3, 4, 5, 6, 7, 100, TOP):
                least = 1 + min(at for at, length in enumerate(lengths) if length <= rounds)
                self.assertEqual(least_number(one, other, rounds=rounds, low=-3, width=17), least)

    def test_least_number_far(self):
        for one, other in FAR + [(SIXTY, OTHERS)]:
            for rounds in (1, 2, 10, 30, 40, 49, 50, 51, 52, 60):
                least = least_number(one, other, rounds=rounds, low=-TOP, width=2 * TOP)
                self.assertLessEqual(len(talk(one, other, number=least, low=-TOP, width=2 * TOP)), rounds)
                if least > 1:
                    self.assertGreater(len(talk(one, other, number=least - 1, low=-TOP, width=2 * TOP)), rounds)
                self.assertLessEqual(least, max(1, len(one) + len(other) + len(less(one, other))))

    def test_least_number_of_little(self):
        for one, other, width, least in [((), (), 1, 1), ((), (), TOP, 1), (((0, 1),), ((0, 1),), TOP, 2),
                                         (((0, 1),), (), TOP, 2), (((0, 1),), ((0, 1),), 1, 1),
                                         (((0, 1),), ((0, 2),), TOP, 3), (((0, 1),), ((0, 2),), 2, 2)]:
            self.assertEqual(least_number(one, other, rounds=1, low=0, width=width), least)

    def test_least_cost(self):
        check_named(self, least_cost, ["one", "other", "low", "width"], [ONE, OTHER, 0, 8], 6)
        check_star(self, least_cost, [ONE, OTHER, 0, 8])
        for one, other in PAIRS:
            costs = [plain_cost(plain_talk(one, other, number, -3, 17), number) for number in range(1, 40)]
            self.assertEqual(least_cost(one, other, low=-3, width=17), 1 + costs.index(min(costs)))
        for one, other in pairs_of_ledgers(4, 12, 0, 10 ** 6, 6):
            costs = [plain_cost(talk(one, other, number=number, low=0, width=10 ** 6), number) for number in range(1, 40)]
            self.assertEqual(least_cost(one, other, low=0, width=10 ** 6), 1 + costs.index(min(costs)))

    def test_least_cost_of_small_ledgers(self):
        for one, other in itertools.product(small_ledgers(keys=(0, 1, 2, 5), amounts=(0, 1)), repeat=2):
            costs = [plain_cost(talk(one, other, number=number, low=0, width=6), number) for number in range(1, 20)]
            self.assertEqual(least_cost(one, other, low=0, width=6), 1 + costs.index(min(costs)))

    def test_least_of_several_numbers_of_the_same_cost(self):
        # Many keys side by side and a few others: cuts cost more than one range, as much, or less.
        for size, least in [(4, 32), (5, 40), (6, 6), (7, 7), (8, 8)]:
            # Four ranges, of the widths size, size, 2 * size and 4 * size, that need just size each.
            both = list(range(2 * size)) + [start for start in (2 * size, 4 * size) if size % 2 == 1]
            alone = [start + 1 + k for start in (2 * size, 4 * size) for k in range((size - 3 * (size % 2)) // 2)]
            one = tuple((key, 2) for key in sorted(both + alone))
            other = tuple((key, 1) for key in both)
            width = 8 * size
            costs = [plain_cost(talk(one, other, number=number, low=0, width=width), number) for number in range(1, 99)]
            self.assertEqual(costs[size - 1], 14 * (size + 1))
            self.assertEqual(costs[width - 1], 2 * (width + 1))
            self.assertEqual(least, 1 + costs.index(min(costs)))
            self.assertEqual(least_cost(one, other, low=0, width=width), least)

    def test_worst_rounds_by_all_pairs(self):
        for width in range(1, 7):
            keys = [(key, amount) for key in range(width) for amount in (1, 2)]
            for most in range(3):
                ledgers = [tuple(chosen) for many in range(most + 1) for chosen in itertools.combinations(keys, many)
                           if len(set(key for key, _ in chosen)) == many]
                for number in range(1, 10):
                    worst = max(len(talk(one, other, number=number, low=0, width=width))
                                for one in ledgers for other in ledgers)
                    self.assertEqual(worst_rounds(number, width=width, most=most), worst)

    def test_worst_rounds(self):
        check_named(self, worst_rounds, ["number", "width", "most"], [4, 100, 2], 6)
        check_star(self, worst_rounds, [4, 100, 2])
        for number, width, most, rounds in [
                (1, 1, 9, 1), (1, TOP, 0, 1), (TOP, TOP, TOP, 1), (TOP - 1, TOP, TOP, 2), (1, TOP, 1, 51), (1, 2, 1, 2),
                (1, 3, 1, 3), (3, 4, 1, 2), (4, 5, 1, 1), (4, 5, 2, 2), (8, 100, 2, 1), (7, 100, 2, 5), (1, 2 ** 49, TOP, 50),
                (1, 2 ** 49 + 1, TOP, 51), (10 ** 14, TOP, TOP, 5), (10 ** 14, TOP, 10 ** 13, 1), (39, 50, 10, 2)]:
            self.assertEqual(worst_rounds(number, width=width, most=most), rounds)

    def test_ranges(self):
        check_named(self, ranges_of, ["number", "low", "width"], [2, 0, 5], [(0, 5), (0, 2), (2, 3), (2, 1), (3, 2)])
        check_star(self, ranges, [2, 0, 5])
        for number in (1, 2, 3, 5):
            for low, width in [(0, 1), (-7, 2), (0, 3), (5, 16), (-TOP, 19), (TOP, 31)]:
                row, found = [(low, width)], []
                while row:
                    found += row
                    row = [half for start, many in row if many > number
                           for half in ((start, many // 2), (start + many // 2, many - many // 2))]
                self.assertEqual(ranges_of(number, low=low, width=width), found)
        self.assertEqual(ranges_of(TOP, low=-TOP, width=TOP), [(-TOP, TOP)])
        self.assertEqual(ranges_of(TOP // 2 + 1, low=0, width=TOP), [
            (0, TOP), (0, TOP // 2), (TOP // 2, TOP // 2 + 1)])
        self.assertEqual(len(ranges_of(1, low=0, width=1000)), 1999)
        given = ranges(1, low=0, width=TOP)
        self.assertEqual([next(given) for _ in range(3)], [(0, TOP), (0, TOP // 2), (TOP // 2, TOP // 2 + 1)])

    def test_ranges_are_those_of_a_talk(self):
        full = tuple((key, 1) for key in range(23))
        for number in (1, 2, 3, 5, 8):
            rounds = talk(full, (), number=number, low=0, width=23)
            self.assertEqual([each[:2] for row in rounds for each in row], ranges_of(number, low=0, width=23))

    def test_wrong_inputs(self):
        ledgers = [(InvalidLedger, NOT_LEDGERS)] * 2
        number = (InvalidNumber, NOT_NUMBERS)
        check_wrong(self, least_number, [ONE, OTHER, 2, 0, 8], ledgers + [number] + SPAN_ERRORS)
        check_wrong(self, least_cost, [ONE, OTHER, 0, 8], ledgers + SPAN_ERRORS)
        check_wrong(self, worst_rounds, [4, 100, 2], [number, SPAN_ERRORS[1], (InvalidNumber, NOT_FROM_ZERO)])
        check_wrong(self, ranges_of, [2, 0, 5], [number] + SPAN_ERRORS)


class SurelySame(unittest.TestCase):
    """Point 36."""

    NAMES = ["one", "many", "other", "other_many", "firm"]

    def test_cases(self):
        for one, many, other, other_many, firm, found in [
                ((1, 2), 1, (1, 2), 1, False, True), ((1, 2), 1, (1, 2), 2, False, None), ((1, 2), 0, (1, 2), 2, False, True),
                ((1, 2), 3, (1, 2), 0, False, None), ((1, 2), 1, (1, 3), 1, False, False), ((1, 2), 9, (2, 2), 9, True, False),
                ((1, 2), 1, (1, 2), 9, True, None), ((1, 2, 4), 1, (1, 2, 4), 9, True, True),
                ((1, 2, 4), 9, (1, 2, 4), 1, True, True), ((1, 2, 4), 2, (1, 2, 4), 9, True, None),
                ((1, 2, 4), 9, (1, 2, 4), 2, True, None), ((1, 2, 4), 1, (1, 2, 4), 9, False, None),
                ((1, 2, 4), 2, (1, 2, 4), 1, False, True), ((0,), 0, (0,), 0, False, True), ((0,), 0, (0,), 1, False, True),
                ((0,), 0, (0,), 2, False, None), ((0,), 0, (0,), 2, True, True), ((0,), 1, (0,), 1, True, None),
                ((1, 2, 4, 8), 2, (1, 2, 4, 8), 2, True, True), ((1, 2, 4, 8), 2, (1, 2, 4, 8), 3, True, None),
                ((0,), 99, (1,), 99, False, False)]:
            check_named(self, surely_same, self.NAMES, [one, many, other, other_many, firm], found)
            if not firm:
                self.assertIs(surely_same(one, many, other, other_many), found)
        with self.assertRaises(TypeError):
            surely_same((1,), 1, (1,), 1, True)

    def test_sure_is_right(self):
        ledgers = small_ledgers(keys=(0, 1, 2, 3), amounts=(-1, 0, 1))
        for number in (1, 2, 3, 4):
            for one, other in itertools.product(ledgers, repeat=2):
                mine, yours = plain_sums(one, number), plain_sums(other, number)
                firm = min([amount for _, amount in one + other] + [1]) > 0
                found = surely_same(mine, len(one), yours, len(other), firm=firm)
                self.assertTrue(found is None or found is (one == other))
                self.assertEqual(found is False, mine != yours)

    def test_wrong_inputs(self):
        wrong = [(InvalidSums, NOT_SUMS), (InvalidNumber, NOT_FROM_ZERO)] * 2
        check_wrong(self, surely_same, [(5,), 1, (5,), 0], wrong)
        for firm in (False, True):
            for one, other in [((1,), (1, 2)), ((1, 2), (1,)), ((0, 0, 1), (0, 0))]:
                assert_error(self, OtherLength, surely_same, one, 9, other, 0, firm=firm)
                assert_error(self, InvalidNumber, surely_same, one, 9, other, -1, firm=firm)
                assert_error(self, InvalidSums, surely_same, one, 9, list(other), 0, firm=firm)


if __name__ == "__main__":
    unittest.main()
