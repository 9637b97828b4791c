"""Lines of two points that meet two walls in one point, and the tiles that tell it."""

from sheetproofs.books import MOST_PREMISES, Book
from sheetproofs.ranks import rows_product
from sheetproofs.rings import tiles_of
from sheetproofs.spaces import number_at, picture_of


class Meet:
    """Two weights, and the sum of the rows of two points with them."""

    def __init__(self, first, second, row):
        self.first = first
        self.second = second
        self.row = row

    def __eq__(self, other):
        return (isinstance(other, Meet) and self.first == other.first
                and self.second == other.second and self.row == other.row)


def _weights_on(field, numbers):
    """Return the weights that make the sum of two numbers zero; for two zeros, zero and one."""
    one, other = numbers
    if other == field.zero:
        return field.zero, field.one
    return field.one, field.quotient(field.less(field.zero, one), other)


def line_meets(space, p, q, u, v):
    """Return the Meet of the line of two points with two walls, or None."""
    field = space.field
    on_first = (number_at(space, p, u), number_at(space, q, u))
    on_second = (number_at(space, p, v), number_at(space, q, v))
    if field.times(on_first[0], on_second[1]) != field.times(on_first[1], on_second[0]):
        return None
    # Where both points lie on the first wall, the second wall alone decides.
    decides = on_second if on_first == (field.zero, field.zero) else on_first
    weights = _weights_on(field, decides)
    row = rows_product(field, [weights], [space.points[p], space.points[q]])[0]
    return Meet(weights[0], weights[1], row)


def tiles_that_hold(space):
    """Yield the tiles of worth one whose first point and first wall are the lesser ones, ascending."""
    for p, u, q, v in tiles_of(picture_of(space)):
        if line_meets(space, p, q, u, v) is not None:
            yield p, u, q, v


def tile_book(space):
    """Return the book of the first ten tiles that hold, each with sign 0."""
    tiles = list(tiles_that_hold(space))
    return Book.from_rings(picture_of(space), [(tile, 0) for tile in tiles[:MOST_PREMISES]])
