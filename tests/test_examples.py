"""The examples of DOC.md, as printed there, one behind the other, and those of README.md."""

import doctest
import os
import unittest

LEDGERS = """
    >>> from changesums.ledgers import added, cut, folded, gathered, less, power, product
    >>> a = gathered([(5, 2), (-1, 3), (5, 1)])
    >>> [a, added(a, ((5, -3),)), less(((0, 1),), a), folded(a, 3), cut(a, 3)]
    [((-1, 3), (5, 3)), ((-1, 3),), ((-1, -3), (0, 1), (5, -3)), ((2, 6),), ((-1, 3), (1, 3))]
    >>> [product(a, ((0, 1), (2, -1))), power(((0, 1), (1, 1)), 3)]
    [((-1, 3), (1, -3), (5, 3), (7, -3)), ((0, 1), (1, 3), (2, 3), (3, 1))]
"""

POLYNOMIALS = """
    >>> from changesums.polynomials import common, count_roots, from_roots, integer_roots, root_cells, square_free
    >>> p = from_roots([3, -2, 3])
    >>> [p, integer_roots(p), square_free(p), common(p, from_roots([3, 5]))]
    [(18, -3, -4, 1), [(-2, 1), (3, 2)], (-6, -1, 1), (-3, 1)]
    >>> [root_cells((-2, 0, 1)), count_roots((-2, 0, 1), 0, 2), integer_roots((-2, 0, 1)), root_cells((1, 0, 1))]
    [[(-1, 1), (2, 1)], 1, [], []]
"""

SUMS = """
    >>> from changesums.sums import blind, parting, sign_changes, sums_moved, sums_of, sums_product, sums_quotient
    >>> [sums_of(a, 4), sums_moved(sums_of(a, 4), 2), sums_product((1, 1, 1), (2, 0, 4)), parting(a, ((-1, 3), (5, 2)))]
    [(6, 12, 78, 372), (6, 24, 150, 1032), (2, 2, 6), 0]
    >>> [blind(((0, 1), (1, -2), (2, 1))), blind(a), blind(()), sign_changes(((0, 1), (1, -2), (2, 1)))]
    [2, 0, None, 2]
    >>> [sums_quotient((2, 2, 6), (1, 1, 1)), sums_quotient((1, 0), (2, 2)), sums_quotient((0, 1), (0, 1))]
    [(2, 0, 4), None, None]
"""

BRIEFS = """
    >>> from changesums.briefs import brief, cleared, in_span, is_made, least_blind, on_keys
    >>> [brief(sums_of(((7, 1),), 3)), is_made((0, 0, 1)), is_made((0, 0, 2)), in_span((1, 7, 49), 6, 3)]
    [((0, 15), (1, -35), (2, 21)), False, True, ((7, 1),)]
    >>> [least_blind(3, 5), cleared(((0, 1), (1, -1), (2, -1), (3, 1))), on_keys((2, 10, 58), (3, 7))]
    [((5, -1), (6, 3), (7, -3), (8, 1)), ((0, 1), (1, 1)), ((3, 1), (7, 1))]
"""

RULES = """
    >>> from changesums.rules import amounts_for, determinant, rule_length, rule_of
    >>> [rule_of(sums_of(a, 4)), rule_length((1, 2, 4, 9)), determinant((1, 2, 4, 9), 2), amounts_for((1, 1), (0, 2))]
    [(-5, -4, 1), 3, 0, [(1, 2), (1, 2)]]
"""

TOLD = """
    >>> from changesums.told import changed, mended, mistaken, reason, sure, told
    >>> [told(sums_of(a, 4)), reason((1, 2, 4, 9)), reason((2, 0, 4, 0)), reason((1, 1, 2, 4))]
    [((-1, 3), (5, 3)), ('rule', 3), ('roots', 0), ('amount', 0)]
    >>> [sure((2, 14), 1), sure((2, 14), 2), mistaken(((6, 1), (8, 1)), 2), mistaken(a, 4)]
    [((7, 2),), None, ((7, 2),), None]
    >>> changed(sums_of(a, 4), sums_of(added(a, ((5, 1), (9, -4))), 4))
    ((5, 1), (9, -4))
    >>> mended((3, 6, 12, 7, 48, 96), keys=1, wrong=1)
    (((2, 3),), [3])
"""

COUNTS = """
    >>> from changesums.counts import cover, half_cover, needed_count, rival, runs, sure_count
    >>> [runs(((2, 5), (3, 1), (7, 4))), half_cover(((2, 5), (3, 1), (7, 4))), cover(((2, 1), (3, 1))), cover(((7, 4),))]
    [[(2, 2), (7, 1)], 2, (6, -5, 1), (49, -14, 1)]
    >>> [sure_count((2, 14)), sure_count((2, 14, 98)), needed_count(((7, 2),)), rival(((7, 1),), 2), rival(((7, 2),), 3)]
    [None, ((7, 2),), 3, (2, ((6, 1), (8, 1))), None]
"""

BOXES = """
    >>> from changesums.boxes import count_in_box, in_box, lightest_in_box, needed_in_box, safe_width, twins
    >>> [count_in_box((2, 2), low=0, width=3, most=1), list(in_box((2, 2), low=0, width=3, most=2)), twins(2, width=4, most=1)]
    [1, [((1, 2),), ((0, 1), (2, 1)), ((0, 2), (1, -2), (2, 2))], (((0, -1), (3, -1)), ((1, -1), (2, -1)))]
    >>> [lightest_in_box((2, 2), low=0, width=3, most=2), safe_width(1, most=1), needed_in_box(((1, 2),), low=0, width=3, most=2)]
    [((1, 2),), 1, 3]
"""

MODULAR = """
    >>> from changesums.modular import all_told, reduced, sums_modulo, told_modulo
    >>> [reduced(a, 7), sums_modulo(a, 7, 4), told_modulo((6, 5, 1, 1), 7), told_modulo((1, 2, 4, 2), 7), all_told((1, 0, 1), 3)]
    [((5, 3), (6, 3)), (6, 5, 1, 1), ((5, 3), (6, 3)), None, ((1, 2), (2, 2))]
"""

TALKS = """
    >>> from changesums.talks import least_cost, least_number, ranges, surely_same, talk, worst_rounds
    >>> talk(((1, 1), (6, 2)), ((1, 1), (7, 2)), number=4, low=0, width=8)
    [[(0, 8, ('cut',))], [(0, 4, ('told', ())), (4, 4, ('told', ((6, 2), (7, -2))))]]
    >>> [least_number(((1, 1), (6, 2)), ((1, 1), (7, 2)), rounds=1, low=0, width=8), worst_rounds(4, width=100, most=2)]
    [6, 6]
    >>> [list(ranges(2, low=0, width=5)), surely_same((1, 2), 1, (1, 2), 9), surely_same((1, 2, 4), 1, (1, 2, 4), 9, firm=True)]
    [[(0, 5), (0, 2), (2, 3), (2, 1), (3, 2)], None, True]
"""

TEXTS = """
    >>> from changesums.texts import format_ledger, format_sums, parse_ledger
    >>> [format_ledger(a), format_ledger(()), parse_ledger("-4:+1 0:-20"), format_sums((6, -12, 0))]
    ['-1:+3 5:+3', '-', ((-4, 1), (0, -20)), 'sums 6, -12, 0']
"""

OBJECTS = """
    >>> from changesums.objects import Ledger, Sums
    >>> b = Ledger(a)
    >>> [(b + ((0, 1),)).pairs, (b * b).pairs, (2 * b >> 1).pairs, (b % 3).pairs, abs(b), b[5], 4 in b]
    [((-1, 3), (0, 1), (5, 3)), ((-2, 9), (4, 18), (10, 9)), ((-2, 6), (4, 6)), ((2, 6),), 6, 3, False]
    >>> [Sums.of(a, 4)[2], (Sums((1, 2)) * Sums((3, 4))).numbers, Sums.of(a, 4)(5, -3).told()]
    [78, (3, 10), ((-1, 3),)]
"""

BOOKS = """
    >>> from changesums.books import FirmCappedBook
    >>> c = FirmCappedBook(4, most=2)
    >>> [c.apply([(3, 5), (8, 2), (3, -1)]), c.change(8, -2), c.sums_now, c.undo(), c.pairs_now, c.told_words()]
    [2, 0, (4, 12, 36, 108), 'change', ((3, 4), (8, 2)), ['keys 2', 'sums 4', 'firm', 'most 2']]
"""

SECTIONS = (
    (2, LEDGERS), (3, POLYNOMIALS), (4, SUMS), (5, BRIEFS), (6, RULES), (7, TOLD), (8, COUNTS), (9, BOXES),
    (10, MODULAR), (11, TALKS), (13, TEXTS), (14, OBJECTS), (15, BOOKS))


class Examples(unittest.TestCase):
    """Later sections use the names of the earlier ones, so all examples run in one row."""

    def test_examples(self):
        names = {}
        for number, text in SECTIONS:
            title = f"section {number}"
            with self.subTest(title):
                example = doctest.DocTestParser().get_doctest(text, names, title, None, None)
                told = []
                runner = doctest.DocTestRunner(verbose=False)
                result = runner.run(example, out=told.append, clear_globs=False)
                self.assertGreater(result.attempted, 0)
                self.assertEqual(result.failed, 0, "".join(told))
                names = example.globs

    def test_readme(self):
        name = os.path.join(os.path.dirname(os.path.dirname(os.path.abspath(__file__))), "README.md")
        result = doctest.testfile(name, module_relative=False)
        self.assertGreater(result.attempted, 0)
        self.assertEqual(result.failed, 0)


if __name__ == "__main__":
    unittest.main()
