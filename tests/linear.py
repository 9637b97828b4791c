"""Rows of numbers of fields worked out apart from the package, and spaces to test with."""

from fractions import Fraction

from sheetproofs.fields import FractionField, RestField
from sheetproofs.spaces import Space
from tests.helpers import a_random

TWO, THREE, FIVE, SEVEN, GREAT = [RestField(prime) for prime in (2, 3, 5, 7, 19997)]
FRACTIONS = FractionField()
FIELDS = (TWO, THREE, SEVEN, GREAT, FRACTIONS)


def value(field, number):
    """Return a number of a field as a number of Python."""
    return number if isinstance(field, RestField) else Fraction(*number)


def number(field, worth):
    """Return a number of Python as a number of a field."""
    return worth % field.prime if isinstance(field, RestField) else (worth.numerator, worth.denominator)


def dot(field, one, other):
    """Return the sum of the products of two rows."""
    total = sum((value(field, a) * value(field, b) for a, b in zip(one, other)), Fraction(0))
    return number(field, int(total) if isinstance(field, RestField) else total)


def summed(field, weights, rows, width):
    """Return the sum of the rows with the weights."""
    return tuple(dot(field, weights, [row[at] for row in rows]) for at in range(width))


def rank(field, rows):
    """Return the rank of the rows: how many are no sums of those before."""
    known = []
    for row in rows:
        left = [value(field, n) for n in row]
        for place, other in known:
            factor = left[place]
            left = [value(field, number(field, a - factor * b)) for a, b in zip(left, other)]
        places = [place for place, n in enumerate(left) if n]
        if places:
            lead = left[places[0]]
            turned = pow(int(lead), -1, field.prime) if isinstance(field, RestField) else 1 / lead
            known.append((places[0], [value(field, number(field, n * turned)) for n in left]))
    return len(known)


def a_number(field, chances):
    """Return a number of the field, zero among them."""
    if isinstance(field, RestField):
        return chances.choice((0, 1, chances.randrange(field.prime)))
    return number(field, Fraction(chances.randint(-4, 4), chances.choice((1, 1, 2, 3))))


def a_row(field, chances, width):
    """Return a row of numbers, a list or a tuple."""
    return chances.choice((list, tuple))(a_number(field, chances) for _ in range(width))


def some_rows(field, chances, many, width):
    """Return rows, some of them sums of the others, some all zeros."""
    few = [a_row(field, chances, width) for _ in range(chances.randint(1, many))]
    rows = []
    for _ in range(many):
        kind = chances.random()
        if kind < 0.5:
            rows.append(chances.choice(few))
        elif kind < 0.9:
            rows.append(summed(field, [a_number(field, chances) for _ in few], few, width))
        else:
            rows.append((field.zero,) * width)
    return chances.choice((list, tuple))(rows)


def no_zeros(field, rows):
    """Return the rows with one at the first place of those that are all zeros."""
    return [row if any(n != field.zero for n in row) else (field.one,) + tuple(row[1:]) for row in rows]


def a_space(field, chances, width=None):
    """Return a space; its points and walls are often sums of each other or alike."""
    width = width or chances.randint(1, 6)
    rows = []
    for _ in range(2):
        many = chances.randint(1, 5)
        if chances.random() < 0.5:
            rows.append([a_row(field, chances, width) for _ in range(many)])
        else:
            rows.append(some_rows(field, chances, many, width))
    return Space(field, *[no_zeros(field, some) for some in rows])


def some_spaces(seed, fields=FIELDS, many=12):
    """Return spaces of all widths over the fields."""
    chances = a_random(seed)
    return [a_space(field, chances, 1 + k % 6) for field in fields for k in range(many)]


def table_of_rows(field, points, walls):
    """Return the full table of points and walls."""
    return tuple(tuple(dot(field, point, row) for row in walls) for point in points)
