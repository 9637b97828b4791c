"""Rows, most of them of whole numbers, brought to their form and put together, without checks.

The form is told in point 4.3.
"""


def lead_of(row):
    """Return the place of the first number that is not 0, or the length of the row."""
    for place, number in enumerate(row):
        if number != 0:
            return place
    return len(row)


def row_less(row, times, other):
    """Return the row less so many times the other row."""
    if times == 0:
        return row
    return [number - times * taken for number, taken in zip(row, other)]


def sum_of_products(one, other):
    """Return the sum of the products of two rows, place by place."""
    return sum([number * factor for number, factor in zip(one, other)])


def rest_by(form, row):
    """Take rows of the form off until a number from 0 to lead - 1 stands at the place of each lead."""
    for known in form:
        place = lead_of(known)
        row = row_less(row, row[place] // known[place], known)
    return row


def quotients_by(form, row):
    """Return how often each row of the form is taken off to come to the rest."""
    quotients = []
    for known in form:
        place = lead_of(known)
        quotients.append(row[place] // known[place])
        row = row_less(row, quotients[-1], known)
    return quotients


def bezout(one, other):
    """Return the greatest common divisor of two numbers other than 0, and factors that sum to it."""
    divisor, rest = one, other
    first, next_first = 1, 0
    second, next_second = 0, 1
    while rest != 0:
        quotient = divisor // rest
        divisor, rest = rest, divisor - quotient * rest
        first, next_first = next_first, first - quotient * next_first
        second, next_second = next_second, second - quotient * next_second
    if divisor < 0:
        return -divisor, -first, -second
    return divisor, first, second


def _crossed(known, row, place):
    """Return two rows that make the same lot as these two, the second one with 0 at the place."""
    divisor, first, second = bezout(known[place], row[place])
    down = known[place] // divisor
    across = row[place] // divisor
    mixed = [first * number + second * added for number, added in zip(known, row)]
    return mixed, [down * number - across * taken for number, taken in zip(row, known)]


def _row_put_to(form, row):
    """Return rows with leads at ascending places that make the lot of the form and the row."""
    done = []
    later = list(form)
    while later and lead_of(row) >= lead_of(later[0]):
        known = later[0]
        later = later[1:]
        place = lead_of(known)
        if row[place] != 0:
            known, row = _crossed(known, row, place)
            # Without this the numbers would grow with each row that is put to the form.
            known = rest_by(later, known)
            row = rest_by(later, row)
        done.append(known)
    if any(row):
        sign = 1 if row[lead_of(row)] > 0 else -1
        done.append([sign * number for number in row])
    return done + later


def _tidied(rows):
    """Return rows with leads at ascending places as a form, each reduced by those behind it."""
    form = []
    for row in reversed(rows):
        form = [rest_by(form, row)] + form
    return form


def form_with_row(form, row):
    """Return the form of the lot of a form and one more row."""
    return _tidied(_row_put_to(form, row))


def form_of_rows(rows):
    """Return the form of the lot of the rows as a list of rows."""
    form = []
    for row in rows:
        form = form_with_row(form, row)
    return form


def unit_rows(many):
    """Return as many rows of as many numbers, with 1 in each row at its own place and 0 elsewhere."""
    return [[1 if place == at else 0 for place in range(many)] for at in range(many)]


def beside(rows, others):
    """Return the rows, each with the other row of the same index behind it."""
    return [list(row) + list(other) for row, other in zip(rows, others)]


def columns_of(width, rows):
    """Return the columns of rows of this width as rows."""
    return [[row[place] for row in rows] for place in range(width)]


def tails_behind(width, rows):
    """Return what stands behind the first numbers of those rows whose first numbers are all 0."""
    return [row[width:] for row in rows if lead_of(row) >= width]


def as_tuples(rows):
    """Return the rows as a tuple of tuples."""
    return tuple([tuple(row) for row in rows])
