"""Rows beside the elementary numbers of others: of what they are multiples, up to a row of the lot."""

from sheetproofs.leads import sum_of_products
from sheetproofs.numbers import common_divisor


def turned_couples(turned, row):
    """Return for each place its elementary number and the number of the turned row there.

    The turn makes every lot the lot of rows with one elementary number each, so that a row can be
    looked at place by place.
    """
    numbers = turned.numbers
    return [(numbers[place], sum_of_products(row, [side[place] for side in turned.right]))
            for place in range(len(numbers))]


def _divides(divisor, number):
    """Tell whether the divisor divides the number; 0 divides only 0."""
    return number == 0 if divisor == 0 else number % divisor == 0


def first_unfolded(couples, times):
    """Return the first place that hinders the row to be so many times a row plus a row of the lot.

    It is None if there is no such place. With 0 times the row must be in the lot itself.
    """
    for place, (elementary, number) in enumerate(couples):
        if not _divides(common_divisor(elementary, times), number):
            return place
    return None


def is_folded(couples, times):
    """Tell whether the row is so many times a row plus a row of the lot."""
    return first_unfolded(couples, times) is None
