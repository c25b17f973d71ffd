"""Point 3 and the section "The interface": names, arguments, and the tree of errors."""

import ast
import importlib
import inspect
import os
import re
import unittest

from changesums import errors

FOLDER = os.path.join(os.path.dirname(os.path.dirname(os.path.abspath(__file__))), "changesums")

FUNCTIONS = {
    "ledgers": """
        is_ledger(value) gathered(changes) amount_at(ledger, key) with_amount(ledger, key, amount) weight(ledger)
        added(*ledgers) less(one, other) scaled(ledger, by) product(one, other) power(ledger, times)
        weighted(ledger, times) moved(ledger, by) stretched(ledger, by) folded(ledger, modulus) cut(ledger, step)
        part(ledger, low, width)""",
    "polynomials": """
        is_polynomial(value) value_at(polynomial, place) times(one, other) primitive(polynomial) common(one, other)
        square_free(polynomial) count_roots(polynomial, low, high) root_cells(polynomial) integer_roots(polynomial)
        from_roots(roots)""",
    "sums": """
        sums_of(ledger, number) with_change(sums, key, by) sums_added(one, other) sums_less(one, other)
        sums_scaled(sums, by) sums_product(one, other) sums_moved(sums, by) sums_stretched(sums, by)
        sums_quotient(one, other) parting(one, other) blind(ledger) sign_changes(ledger)""",
    "briefs": """
        is_made(sums) brief(sums) in_span(sums, low, width) on_keys(sums, keys) least_blind(number, low)
        cleared(ledger)""",
    "rules": """
        is_rule(sums, polynomial) rule_length(sums) rule_of(sums) determinant(sums, size) amounts_for(sums, keys)""",
    "told": """
        told(sums) reason(sums) sure(sums, most) mistaken(ledger, number) changed(before, after) steps_told(rows)
        mended(sums, *, keys, wrong)""",
    "counts": """
        runs(ledger) half_cover(ledger) cover(ledger) sure_count(sums) needed_count(ledger) rival(ledger, number)""",
    "boxes": """
        count_in_box(sums, *, low, width, most) in_box(sums, *, low, width, most)
        nth_in_box(sums, index, *, low, width, most) lightest_in_box(sums, *, low, width, most)
        twins(number, *, width, most) safe_width(number, *, most) needed_in_box(ledger, *, low, width, most)""",
    "modular": """
        reduced(ledger, prime) sums_modulo(ledger, prime, number) told_modulo(sums, prime)
        rule_length_modulo(sums, prime) all_told(sums, prime)""",
    "talks": """
        verdict(one, many, other, other_many, *, low, width) talk(one, other, *, number, low, width)
        talk_cost(rounds, number) least_number(one, other, *, rounds, low, width)
        least_cost(one, other, *, low, width) worst_rounds(number, *, width, most) ranges(number, *, low, width)
        surely_same(one, many, other, other_many, *, firm=False)""",
    "logs": """
        ledger_after(ledger, log) short_log(one, other) sums_along(ledger, log, number) log_fault(ledger, log, rows)
        common_log(one, other) shortest_undo(log) first_return(log)""",
    "texts": """
        format_ledger(ledger) parse_ledger(text) format_sums(sums) parse_sums(text)""",
}

# The methods that stand in each class itself, with their arguments; properties and operators by their names alone.
CLASSES = {
    "objects": {
        "Ledger": """
            __init__(self, pairs=()) pairs __getitem__ __setitem__ __len__ __contains__ __eq__ __abs__ __neg__ __add__
            __radd__ __sub__ __rsub__ __mul__ __rmul__ __pow__ __lshift__ __rshift__ __floordiv__ __mod__ __iadd__
            __isub__ __imul__ __ilshift__ __irshift__""",
        "Sums": """
            __init__(self, numbers) numbers of(ledger, number) __len__ __getitem__ __add__ __sub__ __mul__ __rmul__
            __floordiv__ __lshift__ __eq__ __call__(self, key, by) told(self) reason(self) brief(self)""",
    },
    "books": {
        "Book": """
            __init__(self, number) MOST pairs_now sums_now number __getitem__ __setitem__ __len__
            renumber(self, number) change(self, key, by) apply(self, changes) undo(self) differs(self, sums)
            same_as(self, sums, many) told_words(self) is_valid(value) read(text)""",
        "FirmBook": "__init__(self, number)",
        "CappedBook": "__init__(self, number, most=20) most",
        "FirmCappedBook": "__init__(self, number, most=20)",
    },
}
PROPERTIES = {"pairs", "numbers", "pairs_now", "sums_now", "number", "most"}

ERRORS = """
    InvalidLedger InvalidChanges InvalidKey InvalidAmount InvalidNumber InvalidStep InvalidWidth InvalidPolynomial
    InvalidPlace InvalidPlaces InvalidSums InvalidKeys InvalidRows InvalidIndex InvalidPrime InvalidResidues
    InvalidTalk InvalidText OtherLength OutOfSpan NotMade NotACount TooFewSums NotALedger NotSums NothingToUndo
    TooManyKeys BelowZero""".split()


def listed(text):
    """Return the tuples (name, signature) of a list of functions."""
    found = []
    for piece in " ".join(text.split()).split(") "):
        name, _, arguments = piece.rstrip(")").partition("(")
        found.append((name, f"({arguments})"))
    return found


def defined(module):
    """Return the names of the functions and classes that stand in a file itself."""
    with open(os.path.join(FOLDER, f"{module}.py"), encoding="utf-8") as file:
        body = ast.parse(file.read()).body
    return [node.name for node in body if isinstance(node, (ast.FunctionDef, ast.ClassDef))]


class Interface(unittest.TestCase):
    def test_each_function_stands_in_its_file_with_its_arguments(self):
        for module, text in FUNCTIONS.items():
            names = defined(module)
            functions = importlib.import_module(f"changesums.{module}")
            for name, signature in listed(text):
                with self.subTest(module=module, name=name):
                    self.assertIn(name, names)
                    self.assertEqual(str(inspect.signature(getattr(functions, name))), signature)

    def test_generators(self):
        for module, name in [("boxes", "in_box"), ("talks", "ranges")]:
            functions = importlib.import_module(f"changesums.{module}")
            self.assertTrue(inspect.isgeneratorfunction(getattr(functions, name)))

    def test_each_error_stands_in_its_file(self):
        self.assertEqual(sorted(defined("errors")), sorted(ERRORS + ["SumsError"]))


    def test_each_class_stands_in_its_file_with_its_methods(self):
        for module, classes in CLASSES.items():
            self.assertLessEqual(set(classes), set(defined(module)))
            for class_name, text in classes.items():
                made = getattr(importlib.import_module(f"changesums.{module}"), class_name)
                for name, arguments in re.findall(r"(\w+)(\((?:\(\)|[^()])*\))?", text):
                    with self.subTest(made=class_name, name=name):
                        self.assertIn(name, vars(made))
                        if arguments:
                            self.assertEqual(str(inspect.signature(getattr(made, name))), arguments)
                        if name in PROPERTIES:
                            self.assertIsInstance(vars(made)[name], property)

    def test_kinds_of_methods(self):
        objects = importlib.import_module("changesums.objects")
        books = importlib.import_module("changesums.books")
        self.assertIsInstance(vars(objects.Sums)["of"], classmethod)
        self.assertIsInstance(vars(books.Book)["read"], classmethod)
        self.assertIsInstance(vars(books.Book)["is_valid"], staticmethod)
        self.assertEqual(books.Book.MOST, 24)


class ErrorTree(unittest.TestCase):
    def test_sums_error_is_a_value_error(self):
        self.assertTrue(issubclass(errors.SumsError, ValueError))

    def test_no_error_but_sums_error_stands_above_another_one(self):
        classes = [getattr(errors, name) for name in ERRORS]
        self.assertEqual(len(set(classes)), 28)
        for one in classes:
            self.assertTrue(issubclass(one, errors.SumsError))
            self.assertFalse(issubclass(errors.SumsError, one))
            for other in classes:
                self.assertEqual(issubclass(one, other), one is other)

    def test_errors_are_raised_without_arguments(self):
        for name in ERRORS[:-1] + ["SumsError"]:
            with self.subTest(name), self.assertRaises(errors.SumsError) as caught:
                raise getattr(errors, name)()
            self.assertIs(type(caught.exception), getattr(errors, name))

    def test_below_zero_keeps_its_key(self):
        for key in (0, 5, -10 ** 15):
            for error in (errors.BelowZero(key), errors.BelowZero(key=key)):
                self.assertEqual(error.key, key)
                with self.assertRaises(ValueError) as caught:
                    raise error
                self.assertEqual(caught.exception.key, key)
        with self.assertRaises(TypeError):
            errors.BelowZero()


if __name__ == "__main__":
    unittest.main()
