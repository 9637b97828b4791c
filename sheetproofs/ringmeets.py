"""Rings in spaces: the wall through all side points, and the point that all spans have in common."""

from sheetproofs.leads import columns_of
from sheetproofs.ranks import rows_product, weights_for
from sheetproofs.rings import check_ring
from sheetproofs.spaces import number_at, picture_of


class Through:
    """A wall through all side points and through no point of the ring."""

    def __init__(self, wall):
        self.wall = wall

    def __eq__(self, other):
        return isinstance(other, Through) and self.wall == other.wall


class Spanned:
    """Weights with which the sum of the side points is the first point of the ring."""

    def __init__(self, weights):
        self.weights = weights

    def __eq__(self, other):
        return isinstance(other, Spanned) and self.weights == other.weights


class Common:
    """Weights of the points of a ring, and the row that they make."""

    def __init__(self, weights, row):
        self.weights = weights
        self.row = row

    def __eq__(self, other):
        return isinstance(other, Common) and self.weights == other.weights and self.row == other.row


def _steps(space, corners):
    """Return for each wall of a ring the points before and behind it and their numbers with it."""
    ring = check_ring(picture_of(space), corners)
    points = ring[::2]
    steps = []
    for at, wall in enumerate(ring[1::2]):
        point = points[at]
        behind = points[(at + 1) % len(points)]
        steps.append((point, behind, number_at(space, point, wall), number_at(space, behind, wall)))
    return steps


def side_points(space, corners):
    """Return the side points, one on each wall and on the line of the points beside it."""
    field = space.field
    found = []
    for point, behind, number, number_behind in _steps(space, corners):
        weights = (number_behind, field.less(field.zero, number))
        rows = rows_product(field, [weights], [space.points[point], space.points[behind]])
        found.append(rows[0])
    return tuple(found)


def wall_through(space, corners):
    """Return the wall Through the side points alone, or that they have Spanned the first point."""
    field = space.field
    sides = side_points(space, corners)
    first = space.points[corners[0]]
    weights = weights_for(field, sides, first)
    if weights is not None:
        return Spanned(weights)
    # A wall through all side points has the number zero with no point of the ring or with all.
    numbers = [field.zero] * len(sides) + [field.one]
    return Through(weights_for(field, columns_of(space.width, list(sides) + [first]), numbers))


def common_point(space, corners):
    """Return the Common point of the spans of each side point and the points left, or None."""
    field = space.field
    steps = _steps(space, corners)
    weights = [field.one]
    for _, _, number, number_behind in steps:
        told = field.times(field.less(field.zero, number), weights[-1])
        weights.append(field.quotient(told, number_behind))
    if weights.pop() != field.one:
        return None
    rows = rows_product(field, [weights], [space.points[point] for point, _, _, _ in steps])
    return Common(tuple(weights), rows[0])
