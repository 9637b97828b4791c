"""Spaces moved by rows that can be undone, and the rows that move one space to another."""

from sheetproofs.errors import NotInvertible, NotSpanning
from sheetproofs.fields import is_number_row
from sheetproofs.ranks import columns_as_rows, rank_of_rows, reduced_rows, rows_product, undoing_rows
from sheetproofs.sequences import wrong_index
from sheetproofs.spaces import Space, full_table_of


def moved_space(space, rows):
    """Return the space whose points are the sums of the rows with the numbers of the points."""
    field = space.field
    width = space.width
    if wrong_index(rows, width, lambda row: is_number_row(field, row, width)) is not None:
        raise NotInvertible()
    undoing = undoing_rows(field, rows)
    return Space(field, rows_product(field, space.points, rows),
                 rows_product(field, space.walls, columns_as_rows(undoing)))


def move_between(one, other):
    """Return the rows that move one space to the other, or None."""
    field = one.field
    if rank_of_rows(field, one.points) < one.width:
        raise NotSpanning("points")
    if rank_of_rows(field, one.walls) < one.width:
        raise NotSpanning("walls")
    if field != other.field or one.width != other.width or full_table_of(one) != full_table_of(other):
        return None
    # The leads of the columns are the first points that are unbound together.
    _, leads = reduced_rows(field, columns_as_rows(one.points), len(one.points))
    undoing = undoing_rows(field, [one.points[lead] for lead in leads])
    return rows_product(field, undoing, [other.points[lead] for lead in leads])
