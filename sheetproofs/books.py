"""Books: a picture with premises, and what whole sums of the premises derive."""

from sheetproofs.bases import basis_tours, row_of, tour_of
from sheetproofs.errors import BadBook, BadNumbers, BadPlace, BadRow
from sheetproofs.forms import form_of, numbers_for
from sheetproofs.leads import rest_by
from sheetproofs.lots import fold_in, times_into
from sheetproofs.numbers import is_whole
from sheetproofs.rings import is_ring_saying, ring_saying
from sheetproofs.sayings import check_saying, is_saying, saying_sum, saying_times
from sheetproofs.sequences import has_between, is_whole_row, wrong_index
from sheetproofs.tours import no_tour

MOST_PREMISES = 10


def lifted_row(picture, saying):
    """Return the numbers of the saying's tour at the other places, and its sign behind them."""
    tour, sign = check_saying(picture, saying)
    return row_of(picture, tour) + (sign,)


def lowered_row(picture, row):
    """Return the saying of a lifted row, whose last number may be any whole number."""
    if not is_whole_row(row, lifted_width(picture)):
        raise BadRow()
    return tour_of(picture, row[:-1]), row[-1] % 2


def lifted_width(picture):
    """Return the length of the lifted rows of a picture."""
    return len(basis_tours(picture)) + 1


def _rows_with_two(picture, premises):
    """Return the lifted rows of the premises, and the row that says that signs count modulo 2."""
    rows = [lifted_row(picture, saying) for saying in premises]
    return tuple(rows + [(0,) * (lifted_width(picture) - 1) + (2,)])


def book_rows(book):
    """Return the lifted rows of the premises and the row of zeros with 2 at the end."""
    return _rows_with_two(book.picture, book.premises)


def tour_rows(book):
    """Return the premises' tours as rows at the other places, without signs."""
    return tuple([row_of(book.picture, tour) for tour, _ in book])


class Book:
    """A picture and a tuple of its sayings, the premises."""

    def __init__(self, picture, premises):
        if not has_between(premises, 0, MOST_PREMISES):
            raise BadBook(-1)
        index = wrong_index(premises, None, lambda saying: is_saying(picture, saying))
        if index is not None:
            raise BadBook(index)
        self.picture = picture
        self.premises = tuple([check_saying(picture, saying) for saying in premises])
        rows = _rows_with_two(picture, self.premises)
        self._lot = form_of(len(rows[-1]), rows)

    def __eq__(self, other):
        return (isinstance(other, Book) and self.picture == other.picture
                and self.premises == other.premises)

    def __len__(self):
        return len(self.premises)

    def __iter__(self):
        return iter(self.premises)

    @property
    def lot(self):
        """The form of the rows of the book."""
        return self._lot

    def with_premise(self, saying):
        """Return the book with the saying behind its premises."""
        if len(self.premises) == MOST_PREMISES or not is_saying(self.picture, saying):
            raise BadBook(len(self.premises))
        return Book(self.picture, self.premises + (saying,))

    def without_premise(self, place):
        """Return the book without the premise of this place."""
        if not is_whole(place, 0, len(self.premises) - 1):
            raise BadPlace()
        return Book(self.picture, self.premises[:place] + self.premises[place + 1:])

    @staticmethod
    def from_rings(picture, rings):
        """Return the book of the sayings of rings with signs."""
        if not has_between(rings, 0, MOST_PREMISES):
            raise BadBook(-1)
        index = wrong_index(rings, None, lambda thing: is_ring_saying(picture, thing))
        if index is not None:
            raise BadBook(index)
        return Book(picture, [ring_saying(picture, corners, sign) for corners, sign in rings])


def premise_sum(book, numbers):
    """Return the saying to which the numbers add the premises up."""
    index = wrong_index(numbers, len(book), is_whole)
    if index is not None:
        raise BadNumbers(index)
    picture = book.picture
    total = (no_tour(picture), 0)
    for number, premise in zip(numbers, book.premises):
        total = saying_sum(picture, total, saying_times(picture, premise, number))
    return total


def derives(book, saying):
    """Tell whether the book derives the saying."""
    return not any(rest_by(book.lot, lifted_row(book.picture, saying)))


def derivation_of(book, saying):
    """Return numbers that add the premises up to the saying, or None."""
    row = lifted_row(book.picture, saying)
    numbers = numbers_for(len(row), book_rows(book), row)
    return None if numbers is None else numbers[:-1]


def numbers_fault(book, numbers):
    """Return None for a sequence of one whole number for each premise, else what is wrong."""
    index = wrong_index(numbers, len(book), is_whole)
    if index is None:
        return None
    return "length" if index == -1 else "number"


def unlike_word(one, other):
    """Return the word for what differs first between two sayings, or None if they are equal."""
    if one[0] != other[0]:
        return "tour"
    return "sign" if one[1] != other[1] else None


def derivation_fault(book, saying, numbers):
    """Return None if the numbers add the premises up to the saying, else the first word."""
    asked = check_saying(book.picture, saying)
    word = numbers_fault(book, numbers)
    if word is not None:
        return word
    return unlike_word(premise_sum(book, numbers), asked)


def least_often(book, saying):
    """Return the least whole number from 1 of times that the book derives the saying, or 0."""
    row = lifted_row(book.picture, saying)
    times = times_into(len(row), book_rows(book), row)
    return 0 if times is None else times


def part_with(book, saying, often):
    """Return a couple (part, numbers), or None if there is none.

    The saying is so many times the part, an even number, plus the premises by the numbers.
    """
    row = lifted_row(book.picture, saying)
    fold = fold_in(len(row), book_rows(book), row, often)
    if fold is None:
        return None
    return lowered_row(book.picture, fold.row), fold.numbers[:-1]
