"""A bench, on which a book is changed by edits that can be taken back."""

from sheetproofs.edits import apply_edit, books_behind, plain_edit
from sheetproofs.errors import NothingDone


class Bench:
    """A book, the edits made on it, and the books behind each of them."""

    def __init__(self, book):
        self._books = (book,)
        self._log = ()

    @property
    def current(self):
        """The book as it is now."""
        return self._books[-1]

    @property
    def log(self):
        """The edits made, the first one first."""
        return self._log

    def make(self, edit):
        """Make an edit."""
        self._books = self._books + (apply_edit(self._books[-1], edit),)
        self._log = self._log + (plain_edit(edit),)

    def run(self, edits):
        """Make all edits, one after the other, or none if one is refused."""
        behind = books_behind(self._books[-1], edits)
        self._books = self._books + tuple(behind)
        self._log = self._log + tuple([plain_edit(edit) for edit in edits])

    def take_back(self):
        """Undo the last edit and return it."""
        if len(self._log) == 0:
            raise NothingDone()
        edit = self._log[-1]
        self._books = self._books[:-1]
        self._log = self._log[:-1]
        return edit

    def trial(self, edits, ask):
        """Make the edits, return what the function says of the bench, and take all back that was made."""
        kept_books = self._books
        kept_log = self._log
        try:
            self.run(edits)
            return ask(self)
        finally:
            self._books = kept_books
            self._log = kept_log

    def books(self):
        """Yield the first book and the book behind each edit."""
        for book in self._books:
            yield book
