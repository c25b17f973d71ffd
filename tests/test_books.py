"""Points 1 to 3, 43 and 44: live books."""

import operator
import random
import unittest

from changesums.books import Book, CappedBook, FirmBook, FirmCappedBook
from changesums.errors import (
    BelowZero, InvalidAmount, InvalidChanges, InvalidKey, InvalidNumber, InvalidSums, InvalidText, NothingToUndo,
    OtherLength, TooManyKeys)
from changesums.ledgers import added, gathered, less
from changesums.talks import surely_same
from changesums.texts import format_ledger
from changesums.told import told
from support import NOT_CHANGES, NOT_INTEGERS, NOT_SUMS, assert_error, ledger_from, others, plain_sums

TOP = 10 ** 15 - 1
A = ((-1, 3), (5, 3))
CLASSES = [Book, FirmBook, CappedBook, FirmCappedBook]
CAPPED = [CappedBook, FirmCappedBook]
FIRM = [FirmBook, FirmCappedBook]
NOT_NUMBERS = others(NOT_INTEGERS, 1) + [25, 26, TOP]
NOT_FROM_ZERO = others(NOT_INTEGERS, 0)


def state(book):
    """Return all that can be seen of a book."""
    return (book.pairs_now, book.sums_now, book.number, len(book), book.told_words())


def filled(made, pairs=A, number=4):
    book = made(number)
    book.apply(list(pairs))
    return book


class Books(unittest.TestCase):
    """Point 43: what all books do."""

    def check(self, book, pairs, number, calls):
        self.assertEqual(book.pairs_now, pairs)
        self.assertEqual(book.sums_now, plain_sums(pairs, number))
        self.assertEqual(book.number, number)
        self.assertEqual(len(book), calls)
        self.assertEqual(book.told_words()[:2], [f"keys {len(pairs)}", f"sums {number}"])
        for key in [key for key, _ in pairs] + [77]:
            self.assertEqual(book[key], dict(pairs).get(key, 0))

    def refused(self, book, error, function, *arguments, **named):
        """Check that a call is refused and that the book does not change."""
        before = state(book)
        assert_error(self, error, function, *arguments, **named)
        self.assertEqual(state(book), before)

    def test_a_new_book(self):
        for made in CLASSES:
            self.assertEqual(made.MOST, 24)
            for number in (1, 2, 12, 24):
                self.check(made(number), (), number, 0)
                self.check(made(number=number), (), number, 0)
            for value in NOT_NUMBERS:
                assert_error(self, InvalidNumber, made, value)
                assert_error(self, InvalidNumber, made, number=value)
            with self.assertRaises(TypeError):
                made()
            with self.assertRaises(TypeError):
                list(made(4))

    def test_properties_are_only_read(self):
        book = filled(FirmCappedBook)
        for name in ("pairs_now", "sums_now", "number", "most"):
            with self.assertRaises(AttributeError):
                setattr(book, name, 5)
        self.assertEqual(FirmCappedBook.MOST, book.MOST)

    def test_is_valid(self):
        for made in CLASSES:
            for value in range(1, 25):
                self.assertIs(made.is_valid(value), True)
                self.assertIs(made(4).is_valid(value=value), True)
            for value in NOT_NUMBERS:
                self.assertIs(made.is_valid(value), False)

    def test_calls_and_undo(self):
        for made in CLASSES:
            book = made(3)
            self.assertEqual(book.change(5, 2), 2)
            self.check(book, ((5, 2),), 3, 1)
            book[-1] = 3
            self.check(book, ((-1, 3), (5, 2)), 3, 2)
            self.assertEqual(book.apply([(5, 1), (0, 4), (0, -4)]), 2)
            self.check(book, A, 3, 3)
            self.assertIsNone(book.renumber(24))
            self.check(book, A, 24, 4)
            self.assertEqual(book.change(key=5, by=-3), 0)
            self.check(book, ((-1, 3),), 24, 5)
            self.assertEqual(book.apply(changes=[]), 1)
            self.check(book, ((-1, 3),), 24, 6)
            book.renumber(number=1)
            self.check(book, ((-1, 3),), 1, 7)
            for word, pairs, number in [
                    ("number", ((-1, 3),), 24), ("apply", ((-1, 3),), 24), ("change", A, 24), ("number", A, 3),
                    ("apply", ((-1, 3), (5, 2)), 3), ("set", ((5, 2),), 3), ("change", (), 3)]:
                calls = len(book)
                self.assertEqual(book.undo(), word)
                self.check(book, pairs, number, calls - 1)
            for _ in range(2):
                self.refused(book, NothingToUndo, book.undo)
            book[5] = 1
            self.assertEqual(book.undo(), "set")
            self.refused(book, NothingToUndo, book.undo)

    def test_calls_that_change_nothing_count(self):
        for made in CLASSES:
            book = filled(made)
            book[5] = 3
            book[9] = 0
            self.assertEqual(book.change(5, 0), 3)
            self.assertEqual(book.change(9, 0), 0)
            self.assertEqual(book.apply([]), 2)
            self.assertEqual(book.apply([(0, 0), (1, 5), (1, -5)]), 2)
            book.renumber(4)
            self.check(book, A, 4, 8)
            words = [book.undo() for _ in range(7)]
            self.assertEqual(words, ["number", "apply", "apply", "change", "change", "set", "set"])
            self.check(book, A, 4, 1)

    def test_undo_of_each_kind_behind_another_kind(self):
        for made in CLASSES:
            calls = {"number": lambda book: book.renumber(7), "set": lambda book: book.__setitem__(5, 8),
                     "change": lambda book: book.change(-1, 1), "apply": lambda book: book.apply([(2, 2), (5, -1)])}
            for first, one in calls.items():
                for second, other in calls.items():
                    book = filled(made)
                    before = state(book)
                    one(book)
                    between = state(book)
                    other(book)
                    self.assertEqual(book.undo(), second)
                    self.assertEqual(state(book), between)
                    self.assertEqual(book.undo(), first)
                    self.assertEqual(state(book), before)

    def test_another_number_and_back(self):
        book = filled(Book)
        for number in (1, 24, 4):
            book.renumber(number)
            self.assertEqual(book.sums_now, plain_sums(A, number))
        for value in NOT_NUMBERS:
            self.refused(book, InvalidNumber, book.renumber, value)
            self.refused(book, InvalidNumber, book.renumber, number=value)

    def test_wrong_arguments(self):
        for made in CLASSES:
            book = filled(made)
            for value in NOT_INTEGERS + [book, slice(0, 1)]:
                self.refused(book, InvalidKey, operator.getitem, book, value)
                self.refused(book, InvalidKey, operator.setitem, book, value, 1)
                self.refused(book, InvalidKey, operator.setitem, book, value, None)
                self.refused(book, InvalidAmount, operator.setitem, book, 5, value)
                self.refused(book, InvalidKey, book.change, value, 1)
                self.refused(book, InvalidKey, book.change, value, "")
                self.refused(book, InvalidAmount, book.change, 5, value)
                self.refused(book, InvalidAmount, book.change, by=value, key=5)
            for value in NOT_CHANGES:
                self.refused(book, InvalidChanges, book.apply, value)
                self.refused(book, InvalidChanges, book.apply, changes=value)
            # No change is tried before all of them are looked at.
            self.refused(book, InvalidChanges, book.apply, [(5, -9), (5, True)])
            self.refused(book, InvalidChanges, book.apply, [(key, 1) for key in range(50)] + [None])

    def test_differs(self):
        other = ((0, 1), (5, 4))
        for made in CLASSES:
            book = filled(made)
            self.assertEqual(book.differs(plain_sums(A, 4)), ())
            self.assertEqual(book.differs(plain_sums(((-1, 3), (5, 4)), 4)), ((5, 1),))
            self.assertEqual(book.differs(sums=plain_sums(((-1, 3), (8, -1), (5, 3)), 4)), ((8, -1),))
            self.assertIsNone(book.differs(plain_sums(other, 4)))
            book.renumber(6)
            self.assertEqual(book.differs(plain_sums(other, 6)), less(other, A))
            for numbers in [(0,) * 6, (1, 2, 4, 9, 1, 1), plain_sums(other, 6)]:
                apart = tuple(number - own for number, own in zip(numbers, book.sums_now))
                self.assertEqual(book.differs(numbers), told(apart))
            for value in NOT_SUMS:
                self.refused(book, InvalidSums, book.differs, value)
            for many in (1, 5, 7, 12):
                self.refused(book, OtherLength, book.differs, (1,) * many)

    def test_same_as(self):
        for made in CLASSES:
            firm = made in FIRM
            for number in (1, 2, 3, 4, 5, 6):
                book = filled(made, number=number)
                for many in (0, 1, 2, 3, 4, 60):
                    for numbers in (book.sums_now, (7,) * number):
                        found = book.same_as(numbers, many)
                        self.assertIs(found, surely_same(book.sums_now, 2, numbers, many, firm=firm))
                        self.assertIs(book.same_as(many=many, sums=numbers), found)
            book = filled(made, number=5)
            self.assertIs(book.same_as(plain_sums(A, 5), 3), True)
            self.assertIs(book.same_as(plain_sums(A, 5), 4), True if firm else None)
            self.assertIs(book.same_as((0,) * 5, 0), False)
            for value in NOT_SUMS:
                self.refused(book, InvalidSums, book.same_as, value, 1)
                self.refused(book, InvalidSums, book.same_as, value, -1)
            for value in NOT_FROM_ZERO:
                self.refused(book, InvalidNumber, book.same_as, (0,) * 5, value)
                self.refused(book, InvalidNumber, book.same_as, (0,) * 4, value)
            for many in (1, 4, 6):
                self.refused(book, OtherLength, book.same_as, (0,) * many, 2)

    def test_read(self):
        for made in CLASSES:
            for pairs in [(), A, tuple((key, key + 1) for key in range(20)), ((-TOP, TOP),)]:
                for book in (made.read(format_ledger(pairs)), made.read(text=format_ledger(pairs))):
                    self.assertIs(type(book), made)
                    self.check(book, pairs, 12, 0)
                    self.refused(book, NothingToUndo, book.undo)
            self.check(made(4).read("5:+3"), ((5, 3),), 12, 0)
            for value in [None, "", "5:3", "5:+0", "1:+1 0:+1", 5, A, b"-", "sums 1", "- ", []]:
                assert_error(self, InvalidText, made.read, value)
        book = FirmCappedBook.read("-1:+3 5:+3")
        book.change(5, -3)
        self.check(book, ((-1, 3),), 12, 1)
        self.assertEqual(book.undo(), "change")
        self.check(book, A, 12, 0)
        self.assertEqual(Book.read("0:-1").pairs_now, ((0, -1),))
        self.assertEqual(FirmCappedBook.read("-").told_words(), ["keys 0", "sums 12", "firm", "most 20"])

    def test_lists_do_not_hang_on_a_book(self):
        for made in CLASSES:
            changes = [(5, 1), (7, 2)]
            book = made(4)
            book.apply(changes)
            self.assertEqual(changes, [(5, 1), (7, 2)])
            before = state(book)
            changes.append((9, 9))
            changes[0] = (1, 1)
            words = book.told_words()
            words.append("more")
            words[0] = "none"
            self.assertEqual(state(book), before)
            self.assertIsNot(book.told_words(), book.told_words())
            self.assertEqual(book.undo(), "apply")
            self.check(book, (), 4, 0)

    def test_books_are_apart(self):
        for made in CLASSES:
            one, other = made(4), made(4)
            one.change(5, 1)
            self.check(other, (), 4, 0)
            self.check(one, ((5, 1),), 4, 1)

    def test_many_calls(self):
        chosen = random.Random(7)
        book = Book(24)
        states, pairs = [state(book)], ()
        for _ in range(60):
            kind = chosen.randrange(4)
            key, by = chosen.randrange(-9, 9), chosen.randrange(-2, 3)
            if kind == 0:
                book.renumber(chosen.randrange(1, 25))
            elif kind == 1:
                book[key] = by
                pairs = ledger_from({**dict(pairs), key: by})
            elif kind == 2:
                book.change(key, by)
                pairs = added(pairs, gathered([(key, by)]))
            else:
                changes = [(chosen.randrange(-9, 9), chosen.randrange(-2, 3)) for _ in range(5)]
                book.apply(changes)
                pairs = added(pairs, gathered(changes))
            self.assertEqual(book.pairs_now, pairs)
            states.append(state(book))
        for seen in states[-2::-1]:
            book.undo()
            self.assertEqual(state(book), seen)
        self.assertEqual(book.apply([(k, 1) for k in range(400)]), 400)


class FirmBooks(unittest.TestCase):
    """Point 44: books without amounts below 0."""

    refused = Books.refused

    def below(self, book, key, function, *arguments):
        before = state(book)
        with self.assertRaises(BelowZero) as caught:
            function(*arguments)
        self.assertIs(type(caught.exception), BelowZero)
        self.assertEqual(caught.exception.key, key)
        self.assertEqual(state(book), before)

    def test_subclasses(self):
        self.assertTrue(issubclass(FirmBook, Book))
        self.assertTrue(issubclass(CappedBook, Book))
        self.assertTrue(issubclass(FirmCappedBook, FirmBook))
        self.assertTrue(issubclass(FirmCappedBook, CappedBook))
        self.assertFalse(issubclass(FirmBook, CappedBook))
        self.assertFalse(issubclass(CappedBook, FirmBook))

    def test_words(self):
        self.assertEqual(filled(Book).told_words(), ["keys 2", "sums 4"])
        self.assertEqual(filled(FirmBook).told_words(), ["keys 2", "sums 4", "firm"])
        self.assertEqual(filled(CappedBook).told_words(), ["keys 2", "sums 4", "most 20"])
        self.assertEqual(filled(FirmCappedBook).told_words(), ["keys 2", "sums 4", "firm", "most 20"])
        self.assertEqual(CappedBook(3, 0).told_words(), ["keys 0", "sums 3", "most 0"])
        self.assertEqual(FirmCappedBook(24, most=7).told_words(), ["keys 0", "sums 24", "firm", "most 7"])

    def test_below_zero(self):
        for made in FIRM:
            book = filled(made)
            self.below(book, 5, operator.setitem, book, 5, -1)
            self.below(book, 9, operator.setitem, book, 9, -TOP)
            self.below(book, 5, book.change, 5, -4)
            self.below(book, 0, book.change, 0, -1)
            for changes, key in [
                    ([(7, -1)], 7), ([(7, -1), (7, 1)], 7), ([(5, 1), (-1, -4), (-1, 9), (5, -9)], -1),
                    ([(5, -3), (5, -1), (-1, -9)], 5), ([(1, 1), (2, 2), (1, -2)], 1), ([(8, 0), (5, -5), (5, 5)], 5),
                    ([(9, -1), (-9, -1)], 9)]:
                self.below(book, key, book.apply, changes)
            self.assertEqual(book.change(5, -3), 0)
            self.assertEqual(book.apply([(5, 1), (5, -1), (5, 0)]), 1)
            book[-1] = 0
            self.assertEqual(book.pairs_now, ())
            self.assertEqual(len(book), 4)
            self.below(book, 3, book.change, 3, -1)
        for made in (Book, CappedBook):
            book = filled(made)
            self.assertEqual(book.change(5, -4), -1)
            book[0] = -1
            self.assertEqual(book.apply([(-1, -9), (7, -1)]), 4)

    def test_read_of_amounts_below_zero(self):
        for made in FIRM:
            for text, key in [("5:-1", 5), ("-3:+1 5:-1 6:-2", 5), ("-3:-1 5:+1", -3), ("-3:-1 5:-1", -3)]:
                with self.assertRaises(BelowZero) as caught:
                    made.read(text)
                self.assertEqual(caught.exception.key, key)
        many = tuple((key, -1 if key in (15, 20) else 1) for key in range(21))
        with self.assertRaises(BelowZero) as caught:
            FirmCappedBook.read(format_ledger(many))
        self.assertEqual(caught.exception.key, 15)
        assert_error(self, TooManyKeys, CappedBook.read, format_ledger(many))
        self.assertEqual(Book.read(format_ledger(many)).pairs_now, many)

    def test_most(self):
        for made in CAPPED:
            self.assertEqual([made(4).most, made(4, 0).most, made(4, most=7).most, made(most=60, number=4).most], [20, 0, 7, 60])
            self.assertEqual(made.read("5:+1").most, 20)
            for value in NOT_FROM_ZERO:
                assert_error(self, InvalidNumber, made, 4, value)
                assert_error(self, InvalidNumber, made, 4, most=value)
                assert_error(self, InvalidNumber, made, 0, most=value)
            for value in NOT_NUMBERS:
                assert_error(self, InvalidNumber, made, value, 5)

    def test_too_many_keys(self):
        for made in CAPPED:
            book = made(4, most=2)
            self.assertEqual(book.apply(list(A)), 2)
            self.refused(book, TooManyKeys, operator.setitem, book, 0, 1)
            self.refused(book, TooManyKeys, book.change, 9, 5)
            for changes in [[(9, 1)], [(9, 1), (9, -1)], [(5, 1), (9, 1), (5, -4)], [(5, -3), (9, 1), (8, 1), (8, -1)],
                            [(9, 0), (9, 2), (5, 0)]]:
                self.refused(book, TooManyKeys, book.apply, changes)
            self.assertEqual(book.apply([(5, -3), (9, 1)]), 2)
            self.assertEqual(book.change(9, 3), 4)
            book[0] = 0
            self.assertEqual(book.change(7, 0), 0)
            self.assertEqual(book.pairs_now, ((-1, 3), (9, 4)))
            self.assertEqual(book.undo(), "change")
            book = made(4, 0)
            self.refused(book, TooManyKeys, operator.setitem, book, 0, 1)
            self.refused(book, TooManyKeys, book.apply, [(0, 0), (0, 1), (0, -1)])
            book[0] = 0
            self.assertEqual(book.apply([(0, 0)]), 0)
            self.assertEqual(len(book), 2)
            book = made(4)
            self.assertEqual(book.apply([(key, 1) for key in range(20)]), 20)
            self.refused(book, TooManyKeys, book.change, 20, 1)
        for made in (Book, FirmBook):
            self.assertEqual(made(4).apply([(key, 1) for key in range(60)]), 60)

    def test_read_of_too_many_keys(self):
        text = format_ledger(tuple((key, 1) for key in range(21)))
        for made in CAPPED:
            assert_error(self, TooManyKeys, made.read, text)
            self.assertEqual(len(made.read(format_ledger(tuple((key, 1) for key in range(20)))).pairs_now), 20)
        for made in (Book, FirmBook):
            self.assertEqual(len(made.read(text).pairs_now), 21)

    def test_below_zero_comes_first(self):
        book = FirmCappedBook(4, most=2)
        book.apply(list(A))
        self.below(book, 9, book.change, 9, -1)
        self.below(book, 9, operator.setitem, book, 9, -1)
        self.below(book, 9, book.apply, [(9, -1), (8, 1)])
        self.refused(book, TooManyKeys, book.apply, [(8, 1), (9, -1)])
        capped = CappedBook(4, most=2)
        capped.apply(list(A))
        self.refused(capped, TooManyKeys, capped.change, 9, -1)


if __name__ == "__main__":
    unittest.main()
