"""Tables: a number of a field, not zero, for each open pair, and the worths of tours in them."""

from sheetproofs.bases import basis_tours, other_places, placed_row
from sheetproofs.errors import BadExponent, BadFactors, BadNumbers, BadTable
from sheetproofs.fields import is_number
from sheetproofs.numbers import is_whole
from sheetproofs.sayings import check_saying
from sheetproofs.sequences import wrong_index
from sheetproofs.tours import check_tour

MOST_EXPONENT = 1000


def _is_factor(field, thing):
    """Tell whether the thing is a number of the field other than zero."""
    return is_number(field, thing) and thing != field.zero


def _wrong_factor(field, thing, length):
    """Return -1 for no sequence of this length, else the index of the first item that is no factor."""
    return wrong_index(thing, length, lambda item: _is_factor(field, item))


def check_table(field, picture, table):
    """Return the table as a tuple, or raise BadTable with the index of what is wrong."""
    index = _wrong_factor(field, table, len(picture))
    if index is not None:
        raise BadTable(index)
    return tuple(table)


def _worth(field, numbers, tour):
    """Return the product of the numbers, each to the power of the tour at its place."""
    worth = field.one
    for number, exponent in zip(numbers, tour):
        worth = field.times(worth, field.power(number, exponent))
    return worth


def worth_of(field, picture, table, tour):
    """Return the worth of a tour in a table."""
    numbers = check_table(field, picture, table)
    return _worth(field, numbers, check_tour(picture, tour))


def basis_worths(field, picture, table):
    """Return the worths of the basis tours, in their order."""
    numbers = check_table(field, picture, table)
    return tuple([_worth(field, numbers, tour) for tour in basis_tours(picture)])


def _holds(field, numbers, saying):
    """Tell whether a saying that is checked holds in a table that is checked."""
    tour, sign = saying
    told = field.one if sign == 0 else field.minus_one
    return _worth(field, numbers, tour) == told


def holds_in(field, picture, table, saying):
    """Tell whether a saying holds in a table."""
    numbers = check_table(field, picture, table)
    return _holds(field, numbers, check_saying(picture, saying))


def first_broken(field, picture, table, sayings):
    """Return the index of the first saying that does not hold in a table, or None."""
    numbers = check_table(field, picture, table)
    checked = [check_saying(picture, saying) for saying in sayings]
    for index, saying in enumerate(checked):
        if not _holds(field, numbers, saying):
            return index
    return None


def table_product(field, picture, one, other):
    """Return the table of the products of the numbers of two tables."""
    first = check_table(field, picture, one)
    second = check_table(field, picture, other)
    return tuple([field.times(number, factor) for number, factor in zip(first, second)])


def table_power(field, picture, table, exponent):
    """Return the table of the powers of the numbers of a table."""
    numbers = check_table(field, picture, table)
    if not is_whole(exponent, -MOST_EXPONENT, MOST_EXPONENT):
        raise BadExponent()
    return tuple([field.power(number, exponent) for number in numbers])


def scaled_table(field, picture, table, point_factors, wall_factors):
    """Return the table with each number multiplied by the factors of its point and its wall."""
    numbers = check_table(field, picture, table)
    index = _wrong_factor(field, point_factors, picture.points)
    if index is not None:
        raise BadFactors("points", index)
    index = _wrong_factor(field, wall_factors, picture.walls)
    if index is not None:
        raise BadFactors("walls", index)
    scaled = []
    for (point, wall), number in zip(picture.pairs, numbers):
        factor = field.times(point_factors[point], wall_factors[wall])
        scaled.append(field.times(number, factor))
    return tuple(scaled)


def table_of(field, picture, numbers):
    """Return the table with these numbers at the other places and one at each tree pair."""
    index = _wrong_factor(field, numbers, len(other_places(picture)))
    if index is not None:
        raise BadNumbers(index)
    return placed_row(picture, numbers, field.one)
