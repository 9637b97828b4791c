"""Tours: one whole number for each open pair, with sum 0 at every point and wall."""

from sheetproofs.errors import BadTour, BadWhole
from sheetproofs.numbers import is_whole
from sheetproofs.sequences import is_sequence


def check_tour(picture, tour):
    """Return the tour as a tuple, or raise BadTour with what is wrong."""
    if not is_sequence(tour, len(picture)):
        raise BadTour("length")
    for number in tour:
        if not is_whole(number):
            raise BadTour("number")
    point_sums = [0] * picture.points
    wall_sums = [0] * picture.walls
    for (point, wall), number in zip(picture.pairs, tour):
        point_sums[point] = point_sums[point] + number
        wall_sums[wall] = wall_sums[wall] + number
    if any(point_sums):
        raise BadTour("point")
    if any(wall_sums):
        raise BadTour("wall")
    return tuple(tour)


def no_tour(picture):
    """Return the tour of zeros."""
    return (0,) * len(picture)


def tour_sum(picture, one, other):
    """Return the sum of two tours."""
    first = check_tour(picture, one)
    second = check_tour(picture, other)
    return tuple([number + added for number, added in zip(first, second)])


def tour_times(picture, tour, whole):
    """Return the tour multiplied by a whole number."""
    numbers = check_tour(picture, tour)
    if not is_whole(whole):
        raise BadWhole()
    return tuple([number * whole for number in numbers])


def tour_size(picture, tour):
    """Return the sum of the absolute numbers."""
    return sum([abs(number) for number in check_tour(picture, tour)])


def led_tour(one, other, tour):
    """Return the tour of another picture with the same numbers at the same pairs."""
    led = [0] * len(other)
    for pair, number in zip(one.pairs, check_tour(one, tour)):
        if number != 0:
            led[other.place_of(pair)] = number
    return tuple(led)
