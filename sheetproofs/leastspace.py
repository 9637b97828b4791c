"""Full tables, and the spaces that have them: of least width, and with unit points."""

from sheetproofs.errors import BadFull
from sheetproofs.fields import is_number_row
from sheetproofs.leads import as_tuples, beside, columns_of
from sheetproofs.pictures import MOST_CORNERS
from sheetproofs.ranks import columns_as_rows, rank_of_rows, reduced_rows, unit_row
from sheetproofs.sequences import has_between, wrong_index
from sheetproofs.spaces import Space
from sheetproofs.tables import check_table


def check_full(field, full):
    """Return the full table as a tuple of tuples, or raise BadFull with the index of what is wrong."""
    if not has_between(full, 1, MOST_CORNERS):
        raise BadFull(-1)
    if not has_between(full[0], 1, MOST_CORNERS):
        raise BadFull(0)
    walls = len(full[0])
    index = wrong_index(full, None, lambda row: is_number_row(field, row, walls))
    if index is not None:
        raise BadFull(index)
    return as_tuples(full)


def full_of(field, picture, table):
    """Return the full table with the numbers of the table at the open pairs and zeros elsewhere."""
    numbers = check_table(field, picture, table)
    full = [[field.zero] * picture.walls for _ in range(picture.points)]
    for (point, wall), number in zip(picture.pairs, numbers):
        full[point][wall] = number
    return as_tuples(full)


def _marks_of_zeros(field, rows):
    """Return for each row one if it has zeros alone, else zero."""
    return [field.zero if any([number != field.zero for number in row]) else field.one for row in rows]


def _with_marks(field, rows, marks, others):
    """Return the rows with their marks, and the others with zeros, behind them, if there is a mark."""
    if field.one not in marks:
        return rows, others
    return beside(rows, [[mark] for mark in marks]), beside(others, [[field.zero] for _ in others])


def least_width(field, full):
    """Return the least width of a space that has the full table."""
    rows = check_full(field, full)
    width = rank_of_rows(field, rows)
    for table in (rows, columns_as_rows(rows)):
        if field.one in _marks_of_zeros(field, table):
            width = width + 1
    return width


def least_space(field, full):
    """Return a space of the least width that has the full table."""
    rows = check_full(field, full)
    columns = columns_as_rows(rows)
    reduced, leads = reduced_rows(field, rows, len(columns))
    # Each row is the sum of the reduced rows with its own numbers at the leads as weights.
    points = [[row[lead] for lead in leads] for row in rows]
    walls = columns_of(len(columns), reduced[:len(leads)])
    points, walls = _with_marks(field, points, _marks_of_zeros(field, rows), walls)
    walls, points = _with_marks(field, walls, _marks_of_zeros(field, columns), points)
    return Space(field, points, walls)


def unit_space(field, full):
    """Return the space that has the full table and whose points are unit rows."""
    rows = check_full(field, full)
    columns = columns_as_rows(rows)
    points = [unit_row(field, len(rows), at) for at in range(len(rows))]
    walls, points = _with_marks(field, columns, _marks_of_zeros(field, columns), points)
    return Space(field, points, walls)
