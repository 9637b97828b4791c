"""Spaces: points and walls that are rows of numbers of a field."""

from sheetproofs.errors import BadSpace
from sheetproofs.fields import is_number_row
from sheetproofs.leads import as_tuples
from sheetproofs.pictures import MOST_CORNERS, Picture
from sheetproofs.ranks import product_sum
from sheetproofs.sequences import has_between, wrong_index

MOST_WIDTH = 6


def _is_row(field, thing, width):
    """Tell whether the thing is a row of this width, not all zeros."""
    return is_number_row(field, thing, width) and any([number != field.zero for number in thing])


def _check_rows(field, what, rows, width):
    """Raise BadSpace with the word and the index of the first row that is none of this width."""
    index = wrong_index(rows, None, lambda row: _is_row(field, row, width))
    if index is not None:
        raise BadSpace(what, index)


def _width_of(row):
    """Return the number of numbers of the first point, or raise BadSpace."""
    if not has_between(row, 1, MOST_WIDTH):
        raise BadSpace("point", 0)
    return len(row)


class Space:
    """Points and walls, each a row of as many numbers of the field as the width tells."""

    def __init__(self, field, points, walls):
        if not has_between(points, 1, MOST_CORNERS):
            raise BadSpace("points", 0)
        if not has_between(walls, 1, MOST_CORNERS):
            raise BadSpace("walls", 0)
        width = _width_of(points[0])
        _check_rows(field, "point", points, width)
        _check_rows(field, "wall", walls, width)
        self.field = field
        self.points = as_tuples(points)
        self.walls = as_tuples(walls)
        self.width = width

    def __eq__(self, other):
        return (isinstance(other, Space) and self.field == other.field
                and self.points == other.points and self.walls == other.walls)


def number_at(space, point, wall):
    """Return the number of a point and a wall of the space."""
    return product_sum(space.field, space.points[point], space.walls[wall])


def full_table_of(space):
    """Return for each point the tuple of its numbers with all walls."""
    return tuple([tuple([number_at(space, point, wall) for wall in range(len(space.walls))])
                  for point in range(len(space.points))])


def picture_of(space):
    """Return the picture whose open pairs have numbers that are not zero."""
    full = full_table_of(space)
    pairs = [(point, wall) for point, row in enumerate(full) for wall, number in enumerate(row)
             if number != space.field.zero]
    return Picture(len(space.points), len(space.walls), pairs)


def table_of_space(space):
    """Return the numbers that are not zero, in the order of their pairs."""
    return tuple([number for row in full_table_of(space) for number in row if number != space.field.zero])
