"""The elementary numbers of a book, and how often 2 goes into the minus saying."""

from sheetproofs.bases import basis_tours
from sheetproofs.books import book_rows, lifted_row, tour_rows
from sheetproofs.folds import is_folded, turned_couples
from sheetproofs.sayings import minus_saying
from sheetproofs.turnings import elementary_rows


def turned_tours(book):
    """Return the elementary rows of the premises' tours, without signs."""
    return elementary_rows(len(basis_tours(book.picture)), tour_rows(book))


def elementary_of(book):
    """Return the elementary numbers of the book without the ones."""
    return tuple([number for number in turned_tours(book).numbers if number != 1])


def last_twos(book):
    """Return the greatest exponent of 2 with which the minus saying is so often something, or None."""
    rows = book_rows(book)
    turned = elementary_rows(len(rows[-1]), rows)
    couples = turned_couples(turned, lifted_row(book.picture, minus_saying(book.picture)))
    # A contrary book derives the minus saying, so that it is any number of times something.
    if is_folded(couples, 0):
        return None
    twos = 0
    times = 2
    while is_folded(couples, times):
        twos = twos + 1
        times = times * 2
    return twos
