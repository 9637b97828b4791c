"""What follows from a book in the tables over the fractions."""

from sheetproofs.bases import placed_row
from sheetproofs.books import book_rows, derivation_of, least_often, lifted_row, part_with
from sheetproofs.everyprime import NoTable, reading_against
from sheetproofs.folds import turned_couples
from sheetproofs.leads import sum_of_products
from sheetproofs.numbers import is_sign, is_whole
from sheetproofs.readings import reading_modulo
from sheetproofs.sayings import check_saying, minus_saying, saying_times
from sheetproofs.sequences import wrong_index
from sheetproofs.turnings import elementary_rows


class FractionDerivation:
    """The part and the numbers that make the saying, and the sums that make it so often."""

    def __init__(self, part, numbers, often, sums):
        self.part = part
        self.numbers = numbers
        self.often = often
        self.sums = sums

    def __eq__(self, other):
        return (isinstance(other, FractionDerivation) and self.part == other.part
                and self.numbers == other.numbers and self.often == other.often
                and self.sums == other.sums)


class KeptTable:
    """A table of powers of 2, some times minus one, that keeps the premises and not the saying."""

    def __init__(self, signs, exponents):
        self.signs = signs
        self.exponents = exponents

    def __eq__(self, other):
        return (isinstance(other, KeptTable) and self.signs == other.signs
                and self.exponents == other.exponents)


def _kept_by_signs(book, saying):
    """Return a table of ones and minus ones that keeps the premises and not the saying."""
    signs = reading_against(book, saying, 2).numbers[:-1]
    return KeptTable(placed_row(book.picture, signs, 0), (0,) * len(book.picture))


def _kept_by_exponents(book, saying):
    """Return a table that keeps the premises, for a saying that no number of times derives."""
    picture = book.picture
    rows = book_rows(book)
    width = len(rows[-1])
    turned = elementary_rows(width, rows)
    couples = turned_couples(turned, lifted_row(picture, saying))
    # Here all rows of the lot have 0 and the saying has not, so this column gives the exponents.
    place = [at for at in range(width) if couples[at][0] == 0 and couples[at][1] != 0][0]
    exponents = [side[place] for side in turned.right]
    signs = reading_modulo(width, rows, lifted_row(picture, minus_saying(picture)), 2).numbers
    return KeptTable(placed_row(picture, signs[:-1], 0), placed_row(picture, exponents[:-1], 0))


def follows_fractions(book, saying):
    """Return NoTable, a FractionDerivation or a KeptTable for the tables over the fractions."""
    asked = check_saying(book.picture, saying)
    found = part_with(book, minus_saying(book.picture), 2)
    if found is not None:
        part, numbers = found
        return NoTable(part, numbers)
    often = least_often(book, asked)
    if often == 0:
        return _kept_by_exponents(book, asked)
    found = part_with(book, asked, 2)
    if found is None:
        return _kept_by_signs(book, asked)
    part, numbers = found
    sums = derivation_of(book, saying_times(book.picture, asked, often))
    return FractionDerivation(part, numbers, often, sums)


def _is_kept(saying, signs, exponents):
    """Tell whether a saying holds in the table of these signs and exponents."""
    tour, sign = saying
    return sum_of_products(tour, exponents) == 0 and sum_of_products(tour, signs) % 2 == sign


def kept_fault(book, saying, signs, exponents):
    """Return None if the table keeps the premises and not the saying, else the first word."""
    asked = check_saying(book.picture, saying)
    many = len(book.picture)
    if wrong_index(signs, many, is_sign) is not None:
        return "signs"
    if wrong_index(exponents, many, is_whole) is not None:
        return "exponents"
    if not all([_is_kept(premise, signs, exponents) for premise in book.premises]):
        return "premise"
    return "kept" if _is_kept(asked, signs, exponents) else None
