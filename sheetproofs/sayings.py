"""Sayings: a tour with a sign, 0 for the worth 1 and 1 for the worth -1."""

from sheetproofs.errors import BadSaying, BadTour
from sheetproofs.numbers import is_sign
from sheetproofs.sequences import is_sequence
from sheetproofs.tours import check_tour, no_tour, tour_sum, tour_times


def check_saying(picture, saying):
    """Return the saying as a tuple, or raise BadSaying with what is wrong."""
    if not is_sequence(saying, 2):
        raise BadSaying("couple")
    tour, sign = saying
    try:
        numbers = check_tour(picture, tour)
    except BadTour:
        raise BadSaying("tour")
    if not is_sign(sign):
        raise BadSaying("sign")
    return numbers, sign


def is_saying(picture, thing):
    """Tell whether the thing is a saying of the picture."""
    try:
        check_saying(picture, thing)
    except BadSaying:
        return False
    return True


def minus_saying(picture):
    """Return the saying that -1 is 1."""
    return no_tour(picture), 1


def saying_sum(picture, one, other):
    """Return the sum of two sayings, signs added modulo 2."""
    tour, sign = check_saying(picture, one)
    added, more = check_saying(picture, other)
    return tour_sum(picture, tour, added), (sign + more) % 2


def saying_times(picture, saying, whole):
    """Return the saying multiplied by a whole number, the sign modulo 2."""
    tour, sign = check_saying(picture, saying)
    multiplied = tour_times(picture, tour, whole)
    return multiplied, sign * whole % 2
