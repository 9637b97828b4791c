"""Readings: rows of remainders that tell rows apart from a lot."""

from sheetproofs.errors import BadModulus, BadReading, BadRow
from sheetproofs.folds import first_unfolded, turned_couples
from sheetproofs.forms import check_row, check_rows
from sheetproofs.leads import sum_of_products
from sheetproofs.numbers import common_divisor, is_whole
from sheetproofs.sequences import has_between, is_whole_row, wrong_index
from sheetproofs.turnings import elementary_rows

MOST_NUMBERS = 40


class Reading:
    """A modulus and a remainder for each place; called with a row it returns what it reads there."""

    def __init__(self, modulus, numbers):
        if not is_whole(modulus, 2):
            raise BadReading("modulus")
        if not has_between(numbers, 0, MOST_NUMBERS):
            raise BadReading("numbers")
        if wrong_index(numbers, None, lambda number: is_whole(number, 0, modulus - 1)) is not None:
            raise BadReading("numbers")
        self.modulus = modulus
        self.numbers = tuple(numbers)

    def __eq__(self, other):
        return (isinstance(other, Reading) and self.modulus == other.modulus
                and self.numbers == other.numbers)

    def __call__(self, row):
        if not is_whole_row(row, len(self.numbers)):
            raise BadRow()
        return sum_of_products(self.numbers, row) % self.modulus


def _check_modulus(modulus):
    """Raise BadModulus for anything but a whole number from 2."""
    if not is_whole(modulus, 2):
        raise BadModulus()


def _reading_at(turned, place, modulus):
    """Return the reading by one column of the turn, so many times that it reads 0 at the rows."""
    times = modulus // common_divisor(turned.numbers[place], modulus)
    return Reading(modulus, [times * side[place] % modulus for side in turned.right])


def _least_undivided(number):
    """Return the least whole number from 2 that does not divide a number other than 0."""
    modulus = 2
    while number % modulus == 0:
        modulus = modulus + 1
    return modulus


def reading_apart(width, rows, row):
    """Return a reading that reads 0 at the rows and not 0 at the row, or None if the lot has it."""
    kept = check_rows(width, rows)
    asked = check_row(width, row)
    turned = elementary_rows(width, kept)
    couples = turned_couples(turned, asked)
    place = first_unfolded(couples, 0)
    if place is None:
        return None
    elementary, number = couples[place]
    modulus = _least_undivided(number) if elementary == 0 else elementary
    return _reading_at(turned, place, modulus)


def reading_modulo(width, rows, row, modulus):
    """Return such a reading with this modulus, or None if there is none."""
    kept = check_rows(width, rows)
    asked = check_row(width, row)
    _check_modulus(modulus)
    turned = elementary_rows(width, kept)
    place = first_unfolded(turned_couples(turned, asked), modulus)
    return None if place is None else _reading_at(turned, place, modulus)


def count_readings(width, rows, modulus):
    """Return how many readings with this modulus read 0 at all rows."""
    kept = check_rows(width, rows)
    _check_modulus(modulus)
    many = 1
    for elementary in elementary_rows(width, kept).numbers:
        many = many * common_divisor(elementary, modulus)
    return many
