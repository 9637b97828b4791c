"""How the worths of a tour are spread over the figures that keep a book."""

from sheetproofs.bases import row_of
from sheetproofs.counts import count_figures, steps_for
from sheetproofs.folds import turned_couples
from sheetproofs.leads import sum_of_products
from sheetproofs.numbers import common_divisor
from sheetproofs.sizes import prime_of_size
from sheetproofs.splits import turned_tours
from sheetproofs.tours import check_tour


class Spread:
    """How many worths there are, in how many figures each, and the sign that tells which."""

    def __init__(self, many, each, sign):
        self.many = many
        self.each = each
        self.sign = sign

    def __eq__(self, other):
        return (isinstance(other, Spread) and self.many == other.many and self.each == other.each
                and self.sign == other.sign)


def _steps_between(book, tour, around):
    """Return the least number of steps between two worths of the tour, a divisor of around."""
    between = around
    for elementary, number in turned_couples(turned_tours(book), row_of(book.picture, tour)):
        free = around // common_divisor(elementary, around)
        between = common_divisor(between, free * number)
    return between


def spread_of(book, tour, size):
    """Return how the worths of the tour are spread over the figures, or None if there is no table."""
    numbers = check_tour(book.picture, tour)
    prime_of_size(size)
    steps = steps_for(book, size)
    if steps is None:
        return None
    around = size - 1
    many = around // _steps_between(book, numbers, around)
    sign = 0 if many * sum_of_products(numbers, steps) % around == 0 else 1
    return Spread(many, count_figures(book, size) // many, sign)
