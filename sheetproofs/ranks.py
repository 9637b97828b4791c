"""Rows of numbers of a field: ranks, weights, products and the rows that undo others.

The rows of one call have the same length. Nothing here is checked.
"""

from sheetproofs.errors import NotInvertible
from sheetproofs.leads import as_tuples, beside, columns_of


def product_sum(field, one, other):
    """Return the sum of the products of two rows, place by place."""
    total = field.zero
    for number, factor in zip(one, other):
        total = field.plus(total, field.times(number, factor))
    return total


def unit_row(field, length, place):
    """Return the row with one at the place and zeros elsewhere."""
    return tuple([field.one if at == place else field.zero for at in range(length)])


def columns_as_rows(rows):
    """Return the columns of the rows as rows."""
    return columns_of(len(rows[0]), rows) if rows else []


def rows_product(field, rows, others):
    """Return for each row the sum of the others with its numbers as weights."""
    columns = columns_as_rows(others)
    return as_tuples([[product_sum(field, row, column) for column in columns] for row in rows])


def _row_less(field, row, factor, lead):
    """Return the row less the factor times the lead row."""
    return [field.less(number, field.times(factor, other)) for number, other in zip(row, lead)]


def _place_of_lead(field, rows, first, place):
    """Return the index from first on of a row that is not zero at the place, or None."""
    for index in range(first, len(rows)):
        if rows[index][place] != field.zero:
            return index
    return None


def reduced_rows(field, rows, width):
    """Return rows with the same sums that have one, alone in its column, at each lead, and these leads.

    Leads are sought at the first places alone, as many as the width tells. The rows with leads come
    first, by their leads.
    """
    reduced = list(rows)
    leads = []
    for place in range(width):
        many = len(leads)
        index = _place_of_lead(field, reduced, many, place)
        if index is not None:
            row = reduced[index]
            reduced[index] = reduced[many]
            lead = [field.quotient(number, row[place]) for number in row]
            reduced = [lead if at == many else _row_less(field, other, other[place], lead)
                       for at, other in enumerate(reduced)]
            leads.append(place)
    return reduced, leads


def rank_of_rows(field, rows):
    """Return the greatest number of rows that are unbound together."""
    if len(rows) == 0:
        return 0
    _, leads = reduced_rows(field, rows, len(rows[0]))
    return len(leads)


def rows_unbound(field, rows):
    """Tell whether no weights but zeros make the sum of the rows a row of zeros."""
    return rank_of_rows(field, rows) == len(rows)


def equations_for(field, rows, row):
    """Return equations for weights with which the sum of the rows is the row, and their leads, or None.

    An equation has a number for each weight and, at its end, what these times the weights sum to. Each
    lead has one in its own equation and zero in the others.
    """
    many = len(rows)
    # A column of the rows and the row, read as a row, tells what the weights do at one place.
    reduced, leads = reduced_rows(field, columns_of(len(row), list(rows) + [row]), many)
    if any([told[many] != field.zero for told in reduced[len(leads):]]):
        return None
    return reduced[:len(leads)], leads


def weights_for(field, rows, row):
    """Return weights with which the sum of the rows is the row, or None."""
    found = equations_for(field, rows, row)
    if found is None:
        return None
    weights = [field.zero] * len(rows)
    for equation, lead in zip(found[0], found[1]):
        weights[lead] = equation[-1]
    return tuple(weights)


def undoing_rows(field, rows):
    """Return the rows whose product with as many rows as they have numbers has ones and zeros alone."""
    many = len(rows)
    units = [unit_row(field, many, at) for at in range(many)]
    reduced, leads = reduced_rows(field, beside(rows, units), many)
    if len(leads) < many:
        raise NotInvertible()
    return as_tuples([row[many:] for row in reduced])
