"""Live books: objects that keep a ledger and its sums, and whose calls can be taken back."""

from changesums.errors import BelowZero, InvalidNumber, NothingToUndo, TooManyKeys
from changesums.integers import check_amount, check_key, check_number, is_from
from changesums.ledgers import amount_at, changed_in, check_changes
from changesums.sums import first_sums, sums_less
from changesums.talks import surely_same
from changesums.texts import parse_ledger
from changesums.told import ledger_told

NUMBER_READ = 12


class Book:
    """A ledger and so many of its sums."""

    MOST = 24

    def __init__(self, number):
        check_book_number(number)
        self._number = number
        self._pairs = ()
        # The name of each call that can be taken back, and the ledger and the number before it.
        self._calls = []

    @staticmethod
    def is_valid(value):
        """Return whether any value can be the number of a book."""
        return is_from(value, 1) and value <= Book.MOST

    @classmethod
    def read(cls, text):
        """Return a new object of the class with the ledger of a text."""
        pairs = parse_ledger(text)
        book = cls(NUMBER_READ)
        book.refuse(pairs, len(pairs))
        book._pairs = pairs
        return book

    @property
    def pairs_now(self):
        """The ledger."""
        return self._pairs

    @property
    def sums_now(self):
        """The sums of the ledger."""
        return first_sums(self._pairs, self._number)

    @property
    def number(self):
        """The number of the sums."""
        return self._number

    def __iter__(self):
        raise TypeError("a book is not iterated over")

    def __getitem__(self, at):
        return amount_at(self._pairs, at)

    def __setitem__(self, at, worth):
        check_key(at)
        check_amount(worth)
        self.make("set", [(at, worth - amount_at(self._pairs, at))])

    def __len__(self):
        return len(self._calls)

    def refuse(self, pairs, many):
        """Raise the error of the class if the ledger may not have these amounts and so many keys."""

    def make(self, word, changes):
        """Make the changes of a call of this name, all of them or, if one of them is refused, none."""
        amounts = dict(self._pairs)
        for key, by in changes:
            amount = changed_in(amounts, key, by)
            self.refuse([(key, amount)], len(amounts))
        self._calls.append((word, self._pairs, self._number))
        self._pairs = tuple([(key, amounts[key]) for key in sorted(amounts)])

    def renumber(self, number):
        """Set another number of sums."""
        check_book_number(number)
        self._calls.append(("number", self._pairs, self._number))
        self._number = number

    def change(self, key, by):
        """Change the amount at a key, and return the new one."""
        check_key(key)
        check_amount(by)
        self.make("change", [(key, by)])
        return amount_at(self._pairs, key)

    def apply(self, changes):
        """Make all changes of a list or, if one of them is refused, none, and return the number of keys."""
        check_changes(changes)
        self.make("apply", changes)
        return len(self._pairs)

    def undo(self):
        """Take back the last call that is not taken back yet, and return its name."""
        if len(self._calls) == 0:
            raise NothingToUndo()
        word, self._pairs, self._number = self._calls.pop()
        return word

    def differs(self, sums):
        """Return the ledger told for the given sums less the sums of the book."""
        return ledger_told(sums_less(sums, self.sums_now))

    def same_as(self, sums, many):
        """Return whether a ledger with these sums and so many keys is surely the one of the book."""
        return surely_same(self.sums_now, len(self._pairs), sums, many)

    def told_words(self):
        """Return the list of the strings that tell of the book."""
        return [f"keys {len(self._pairs)}", f"sums {self._number}"]


def check_book_number(value):
    """Raise InvalidNumber for any value that cannot be the number of a book."""
    if not Book.is_valid(value):
        raise InvalidNumber()


class FirmBook(Book):
    """A book without amounts below 0."""

    def __init__(self, number):
        super().__init__(number)

    def refuse(self, pairs, many):
        """Raise BelowZero for the first amount below 0."""
        super().refuse(pairs, many)
        for key, amount in pairs:
            if amount < 0:
                raise BelowZero(key)

    def same_as(self, sums, many):
        """Return whether a count with these sums and so many keys is surely the one of the book."""
        return surely_same(self.sums_now, len(self._pairs), sums, many, firm=True)

    def told_words(self):
        """Return the list of the strings that tell of the book."""
        return super().told_words() + ["firm"]


class CappedBook(Book):
    """A book with at most so many keys."""

    def __init__(self, number, most=20):
        super().__init__(number)
        check_number(most, 0)
        self._most = most

    @property
    def most(self):
        """The greatest number of keys."""
        return self._most

    def refuse(self, pairs, many):
        """Raise TooManyKeys for more keys than allowed."""
        super().refuse(pairs, many)
        if many > self._most:
            raise TooManyKeys()

    def told_words(self):
        """Return the list of the strings that tell of the book."""
        return super().told_words() + [f"most {self._most}"]


class FirmCappedBook(CappedBook, FirmBook):
    """A book without amounts below 0 and with at most so many keys; what is below 0 is refused first."""

    def __init__(self, number, most=20):
        super().__init__(number, most)
