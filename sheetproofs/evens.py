"""What follows from a book in the tables over the fields in which two is zero."""

from sheetproofs.bases import placed_row, row_of
from sheetproofs.books import numbers_fault, premise_sum, tour_rows
from sheetproofs.folds import is_folded, turned_couples
from sheetproofs.forms import numbers_for
from sheetproofs.leads import sum_of_products
from sheetproofs.lots import times_into
from sheetproofs.numbers import is_whole, power_of
from sheetproofs.readings import reading_modulo
from sheetproofs.sayings import check_saying
from sheetproofs.sequences import wrong_index
from sheetproofs.tours import tour_times
from sheetproofs.turnings import elementary_rows

MOST_LEAST = 20000


class EvenDerivation:
    """Numbers that add the premises' tours up to 2 to the power twos times the saying's tour."""

    def __init__(self, twos, numbers):
        self.twos = twos
        self.numbers = numbers

    def __eq__(self, other):
        return (isinstance(other, EvenDerivation) and self.twos == other.twos
                and self.numbers == other.numbers)


class TurnTable:
    """A row by which the premises' tours turn by 0 and the saying's tour does not."""

    def __init__(self, modulus, row):
        self.modulus = modulus
        self.row = row

    def __eq__(self, other):
        return (isinstance(other, TurnTable) and self.modulus == other.modulus
                and self.row == other.row)


def _twos_and_odd(number):
    """Return how often 2 divides a number from 1, and the odd number that is left."""
    twos = 0
    while number % 2 == 0:
        twos = twos + 1
        number = number // 2
    return twos, number


def _turning_modulus(couples):
    """Return an odd modulus that tells apart the row with these turned couples, the least to 20000."""
    for modulus in range(3, MOST_LEAST + 1, 2):
        if not is_folded(couples, modulus):
            return modulus
    # Only an elementary number above that bound leads here, and then the odd part of one will do.
    odds = [_twos_and_odd(elementary)[1] for elementary, _ in couples if elementary != 0]
    return [odd for odd in odds if not is_folded(couples, odd)][0]


def follows_even(book, saying):
    """Return an EvenDerivation or a TurnTable for the fields in which two is zero."""
    picture = book.picture
    tour, _ = check_saying(picture, saying)
    asked = row_of(picture, tour)
    width = len(asked)
    rows = tour_rows(book)
    times = times_into(width, rows, asked)
    if times is not None:
        twos, odd = _twos_and_odd(times)
        # All good numbers of times are multiples of the least one.
        if odd == 1:
            return EvenDerivation(twos, numbers_for(width, rows, [times * number for number in asked]))
    modulus = _turning_modulus(turned_couples(elementary_rows(width, rows), asked))
    numbers = reading_modulo(width, rows, asked, modulus).numbers
    return TurnTable(modulus, placed_row(picture, numbers, 0))


def even_fault(book, saying, twos, numbers):
    """Return None if the numbers make 2 to the power twos times the tour, else the first word."""
    tour, _ = check_saying(book.picture, saying)
    if not is_whole(twos, 0):
        return "twos"
    word = numbers_fault(book, numbers)
    if word is not None:
        return word
    total, _ = premise_sum(book, numbers)
    return None if total == tour_times(book.picture, tour, power_of(2, twos)) else "tour"


def turn_fault(book, saying, modulus, row):
    """Return None if only the saying's tour turns by the row, else the first word."""
    tour, _ = check_saying(book.picture, saying)
    if not is_whole(modulus, 3) or modulus % 2 == 0:
        return "modulus"
    if wrong_index(row, len(book.picture), lambda number: is_whole(number, 0, modulus - 1)) is not None:
        return "row"
    if any([sum_of_products(turned, row) % modulus for turned, _ in book.premises]):
        return "premise"
    return "kept" if sum_of_products(tour, row) % modulus == 0 else None
