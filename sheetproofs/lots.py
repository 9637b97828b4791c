"""Lots put together, cut down and compared, and rows that come into a lot when they are multiplied."""

from sheetproofs.errors import BadPlace, BadTimes, NotWithin
from sheetproofs.forms import check_row, check_rows
from sheetproofs.leads import (as_tuples, beside, form_of_rows, lead_of, rest_by, row_less,
                               sum_of_products, tails_behind, unit_rows)
from sheetproofs.numbers import common_divisor, is_whole


class Fold:
    """A row that is taken several times, and the numbers of the rows that sum to what is left."""

    def __init__(self, row, numbers):
        self.row = row
        self.numbers = numbers

    def __eq__(self, other):
        return (isinstance(other, Fold) and self.row == other.row
                and self.numbers == other.numbers)


def plus_lot(width, one, other):
    """Return the form of all sums of a row of one lot and a row of the other."""
    first = check_rows(width, one)
    second = check_rows(width, other)
    return as_tuples(form_of_rows(first + second))


def meet_lot(width, one, other):
    """Return the form of the rows that are in both lots."""
    first = check_rows(width, one)
    second = check_rows(width, other)
    # Where the front of a sum is zeros, the rows of the first lot behind are minus one of the second.
    rows = beside(first, first) + beside(second, [[0] * width for _ in second])
    return as_tuples(tails_behind(width, form_of_rows(rows)))


def lot_where(width, rows, conditions):
    """Return the form of the rows of the lot that each condition sums to 0."""
    kept = check_rows(width, rows)
    asked = form_of_rows(check_rows(width, conditions))
    sums = [[sum_of_products(row, condition) for condition in asked] for row in kept]
    return as_tuples(tails_behind(len(asked), form_of_rows(beside(sums, kept))))


def let_go(width, rows, place):
    """Return the form of the rows of the lot whose first numbers, up to the place, are 0."""
    kept = check_rows(width, rows)
    if not is_whole(place, 0, width):
        raise BadPlace()
    return as_tuples([row for row in form_of_rows(kept) if lead_of(row) >= place])


def _first_beyond(form, rows):
    """Return the index of the first row that is not in the lot of the form, or None."""
    for index, row in enumerate(rows):
        if any(rest_by(form, row)):
            return index
    return None


def holds_lot(width, one, other):
    """Tell whether every row of the lot of other is in the lot of one."""
    first = check_rows(width, one)
    second = check_rows(width, other)
    return _first_beyond(form_of_rows(first), second) is None


def same_lot(width, one, other):
    """Tell whether two lots are equal."""
    first = check_rows(width, one)
    second = check_rows(width, other)
    return as_tuples(form_of_rows(first)) == as_tuples(form_of_rows(second))


def _leads_product(form):
    """Return the product of the leads."""
    product = 1
    for row in form:
        product = product * row[lead_of(row)]
    return product


def size_within(width, inner, outer):
    """Return how many classes the inner lot makes of the rows of the outer one, or None."""
    kept = check_rows(width, inner)
    around = form_of_rows(check_rows(width, outer))
    index = _first_beyond(around, kept)
    if index is not None:
        raise NotWithin(index)
    within = form_of_rows(kept)
    if len(within) < len(around):
        return None
    # With as many rows as the outer form has, the leads of both stand at the same places.
    return _leads_product(within) // _leads_product(around)


def times_into(width, rows, row):
    """Return the least whole number from 1 that brings the row into the lot, or None."""
    kept = check_rows(width, rows)
    left = check_row(width, row)
    times = 1
    for known in form_of_rows(kept):
        place = lead_of(known)
        more = known[place] // common_divisor(known[place], left[place])
        times = times * more
        left = [more * number for number in left]
        left = row_less(left, left[place] // known[place], known)
    return None if any(left) else times


def fold_in(width, rows, row, times):
    """Return a Fold that makes the row of a row taken so many times and of the rows, or None."""
    kept = check_rows(width, rows)
    asked = check_row(width, row)
    if not is_whole(times, 1):
        raise BadTimes()
    many = len(kept)
    # The multiples come first, so that the numbers of the rows stay below them.
    folds = beside([[times * item for item in unit] for unit in unit_rows(width)],
                   [[0] * many for _ in range(width)])
    form = form_of_rows(folds + beside(kept, unit_rows(many)))
    rest = rest_by(form, asked + (0,) * many)
    if any(rest[:width]):
        return None
    numbers = [-number for number in rest[width:]]
    left = list(asked)
    for number, known in zip(numbers, kept):
        left = row_less(left, number, known)
    return Fold(tuple([number // times for number in left]), tuple(numbers))
