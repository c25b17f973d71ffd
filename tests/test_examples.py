"""The examples of DOC.md, as printed there, one behind the other."""

import doctest
import unittest

LEDGERS = """
    >>> from changesums.ledgers import added, cut, folded, gathered, less, power, product
    >>> a = gathered([(5, 2), (-1, 3), (5, 1)])
    >>> [a, added(a, ((5, -3),)), less(((0, 1),), a), folded(a, 3), cut(a, 3)]
    [((-1, 3), (5, 3)), ((-1, 3),), ((-1, -3), (0, 1), (5, -3)), ((2, 6),), ((-1, 3), (1, 3))]
    >>> [product(a, ((0, 1), (2, -1))), power(((0, 1), (1, 1)), 3)]
    [((-1, 3), (1, -3), (5, 3), (7, -3)), ((0, 1), (1, 3), (2, 3), (3, 1))]
"""

POLYNOMIALS = """
    >>> from changesums.polynomials import common, count_roots, from_roots, integer_roots, root_cells, square_free
    >>> p = from_roots([3, -2, 3])
    >>> [p, integer_roots(p), square_free(p), common(p, from_roots([3, 5]))]
    [(18, -3, -4, 1), [(-2, 1), (3, 2)], (-6, -1, 1), (-3, 1)]
    >>> [root_cells((-2, 0, 1)), count_roots((-2, 0, 1), 0, 2), integer_roots((-2, 0, 1)), root_cells((1, 0, 1))]
    [[(-1, 1), (2, 1)], 1, [], []]
"""


class Examples(unittest.TestCase):
    """Later sections use the names of the earlier ones, so all examples run in one row."""

    def test_examples(self):
        names = {}
        for title, text in (("section 2", LEDGERS), ("section 3", POLYNOMIALS)):
            with self.subTest(title):
                example = doctest.DocTestParser().get_doctest(text, names, title, None, None)
                told = []
                runner = doctest.DocTestRunner(verbose=False)
                result = runner.run(example, out=told.append, clear_globs=False)
                self.assertGreater(result.attempted, 0)
                self.assertEqual(result.failed, 0, "".join(told))
                names = example.globs


if __name__ == "__main__":
    unittest.main()
