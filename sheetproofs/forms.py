"""Lots of rows of whole numbers: their sums, their forms and what is in them."""

from sheetproofs.errors import BadNumbers, BadRow, BadRows, BadWidth
from sheetproofs.leads import as_tuples, beside, form_of_rows, lead_of, rest_by, unit_rows
from sheetproofs.numbers import is_whole
from sheetproofs.sequences import has_between, is_whole_row, wrong_index

MOST_WIDTH = 40
MOST_ROWS = 40


class Turned:
    """A form, and for each of its rows the numbers that make it of the given rows."""

    def __init__(self, form, turning):
        self.form = form
        self.turning = turning

    def __eq__(self, other):
        return (isinstance(other, Turned) and self.form == other.form
                and self.turning == other.turning)


def check_width(width):
    """Return the width, or raise BadWidth."""
    if not is_whole(width, 0, MOST_WIDTH):
        raise BadWidth()
    return width


def check_rows(width, rows):
    """Return the rows as a tuple of tuples, or raise BadRows with the index of what is wrong."""
    check_width(width)
    if not has_between(rows, 0, MOST_ROWS):
        raise BadRows(-1)
    index = wrong_index(rows, len(rows), lambda row: is_whole_row(row, width))
    if index is not None:
        raise BadRows(index)
    return as_tuples(rows)


def check_row(width, row):
    """Return the row as a tuple, or raise BadRow."""
    check_width(width)
    if not is_whole_row(row, width):
        raise BadRow()
    return tuple(row)


def sum_rows(width, rows, numbers):
    """Return the sum of the rows, each taken as often as its number tells."""
    kept = check_rows(width, rows)
    index = wrong_index(numbers, len(kept), is_whole)
    if index is not None:
        raise BadNumbers(index)
    total = [0] * width
    for number, row in zip(numbers, kept):
        total = [added + number * item for added, item in zip(total, row)]
    return tuple(total)


def form_of(width, rows):
    """Return the form of the lot of the rows."""
    return as_tuples(form_of_rows(check_rows(width, rows)))


def rest_of(width, rows, row):
    """Return the row less a row of the lot, with a number below the lead at the place of each lead."""
    kept = check_rows(width, rows)
    asked = check_row(width, row)
    return tuple(rest_by(form_of_rows(kept), asked))


def holds_row(width, rows, row):
    """Tell whether the row is in the lot of the rows."""
    return not any(rest_of(width, rows, row))


def marked_form(rows):
    """Return the form of the rows with unit rows behind, so that numbers for each row stand there."""
    return form_of_rows(beside(rows, unit_rows(len(rows))))


def form_with(width, rows):
    """Return the form and the numbers that make each of its rows."""
    marked = [row for row in marked_form(check_rows(width, rows)) if lead_of(row) < width]
    return Turned(as_tuples([row[:width] for row in marked]),
                  as_tuples([row[width:] for row in marked]))


def numbers_for(width, rows, row):
    """Return numbers that make the row of the rows, or None if it is not in their lot."""
    kept = check_rows(width, rows)
    asked = check_row(width, row)
    # What is taken off in front to come to zeros stands behind with the other sign.
    rest = rest_by(marked_form(kept), asked + (0,) * len(kept))
    if any(rest[:width]):
        return None
    return tuple([-number for number in rest[width:]])
