"""What a book on one of two joined pictures tells about the other, by sayings of the shared pairs."""

from sheetproofs.bases import basis_tours
from sheetproofs.books import (book_rows, derivation_fault, derivation_of, lifted_row, lifted_width,
                               lowered_row)
from sheetproofs.forms import form_of, numbers_for, sum_rows
from sheetproofs.joining import (back_to_first, back_to_second, check_books, check_second, first_saying,
                                 pairs_of_second, second_saying, shared_pairs)
from sheetproofs.lots import lot_where, plus_lot
from sheetproofs.sayings import check_saying, is_saying, saying_sum, saying_times


class Bridge:
    """A saying of the shared pairs, the numbers of the first book and those of the second."""

    def __init__(self, middle, first, second):
        self.middle = middle
        self.first = first
        self.second = second

    def __eq__(self, other):
        return (isinstance(other, Bridge) and self.middle == other.middle
                and self.first == other.first and self.second == other.second)


def _rows_without(book, places):
    """Return the form of the rows of the book's lot whose tours have 0 at the places."""
    tours = basis_tours(book.picture)
    conditions = [tuple([tour[place] for tour in tours]) + (0,) for place in places]
    return lot_where(lifted_width(book.picture), book.lot, conditions)


def forget_pairs(book, pairs):
    """Return the form of the rows of the sayings that the book derives with 0 at the pairs."""
    places = [book.picture.place_of(pair) for pair in pairs]
    return _rows_without(book, sorted(set(places)))


def _is_on_shared(joining, saying):
    """Tell whether a saying of the first picture has 0 at every pair that is not shared."""
    tour, _ = saying
    shared = shared_pairs(joining)
    return all([number == 0 or pair in shared for pair, number in zip(joining.one.pairs, tour)])


def _to_second(joining, saying):
    """Return the counterpart of a saying of the first picture, whose numbers stand at shared pairs."""
    return back_to_second(joining, first_saying(joining, saying))


def passed_on(joining, other_book):
    """Return the form of the rows of the sayings of shared pairs that the second book derives."""
    check_second(joining, other_book)
    one = joining.one
    places = [place for place, pair in enumerate(pairs_of_second(joining)) if not one.is_open(pair)]
    rows = []
    for row in _rows_without(other_book, places):
        told = second_saying(joining, lowered_row(joining.other, row))
        rows.append(lifted_row(one, back_to_first(joining, told)))
    width = lifted_width(one)
    return form_of(width, rows + [(0,) * (width - 1) + (2,)])


def told_across(joining, one_book, other_book):
    """Return the form of the rows of the sayings of the first picture that both books derive together."""
    check_books(joining, one_book, other_book)
    return plus_lot(lifted_width(joining.one), one_book.lot, passed_on(joining, other_book))


def bridge_of(joining, one_book, other_book, saying):
    """Return a Bridge that leads from both books to the saying, or None."""
    check_books(joining, one_book, other_book)
    one = joining.one
    row = lifted_row(one, saying)
    width = len(row)
    told = book_rows(one_book)
    passed = passed_on(joining, other_book)
    numbers = numbers_for(width, told + passed, row)
    if numbers is None:
        return None
    middle = lowered_row(one, sum_rows(width, passed, numbers[len(told):]))
    second = derivation_of(other_book, _to_second(joining, middle))
    return Bridge(middle, numbers[:len(one_book)], second)


def bridge_fault(joining, one_book, other_book, saying, bridge):
    """Return None if the bridge leads from both books to the saying, else the first word."""
    check_books(joining, one_book, other_book)
    one = joining.one
    asked = check_saying(one, saying)
    middle = bridge.middle
    if not is_saying(one, middle) or not _is_on_shared(joining, middle):
        return "middle"
    if derivation_fault(other_book, _to_second(joining, middle), bridge.second) is not None:
        return "second"
    rest = saying_sum(one, asked, saying_times(one, middle, -1))
    return None if derivation_fault(one_book, rest, bridge.first) is None else "first"
