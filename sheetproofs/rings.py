"""Rings of corners, points and walls in turn, and the tours they make."""

from sheetproofs.errors import BadRing, BadSign
from sheetproofs.numbers import is_sign, is_whole
from sheetproofs.sequences import is_sequence

FEWEST_CORNERS = 4
MOST_CORNERS = 60


def ring_sides(corners):
    """Return the couples (pair, step) of the sides, step 1 forth and -1 back."""
    sides = []
    for at in range(len(corners)):
        here = corners[at]
        there = corners[(at + 1) % len(corners)]
        if at % 2 == 0:
            sides.append(((here, there), 1))
        else:
            sides.append(((there, here), -1))
    return tuple(sides)


def _check_corners(picture, corners):
    """Raise BadRing if a point or a wall in a row of corners is none."""
    for at, corner in enumerate(corners):
        many = picture.points if at % 2 == 0 else picture.walls
        if not is_whole(corner, 0, many - 1):
            raise BadRing("corner")


def _check_sides(picture, corners):
    """Raise BadRing if the pair of a side is not open."""
    for pair, _ in ring_sides(corners):
        if not picture.is_open(pair):
            raise BadRing("pair")


def check_ring(picture, corners):
    """Return the corners as a tuple, or raise BadRing with what is wrong."""
    if not is_sequence(corners) or len(corners) % 2 == 1:
        raise BadRing("length")
    if len(corners) < FEWEST_CORNERS or len(corners) > MOST_CORNERS:
        raise BadRing("length")
    _check_corners(picture, corners)
    _check_sides(picture, corners)
    return tuple(corners)


def is_ring(picture, thing):
    """Tell whether the thing is a ring of the picture."""
    try:
        check_ring(picture, thing)
    except BadRing:
        return False
    return True


def is_ring_saying(picture, thing):
    """Tell whether the thing is a couple of a ring of the picture and a sign."""
    return is_sequence(thing, 2) and is_ring(picture, thing[0]) and is_sign(thing[1])


def ring_tour(picture, corners):
    """Return the sum of the steps of all sides at their pairs."""
    tour = [0] * len(picture)
    for pair, step in ring_sides(check_ring(picture, corners)):
        place = picture.place_of(pair)
        tour[place] = tour[place] + step
    return tuple(tour)


def ring_saying(picture, corners, sign):
    """Return the saying of the tour of a ring with this sign."""
    tour = ring_tour(picture, corners)
    if not is_sign(sign):
        raise BadSign()
    return tour, sign


def turned_ring(corners):
    """Return the ring read backwards from its first point."""
    return tuple([corners[-at] for at in range(len(corners))])


def tile_ring(picture, p, u, q, v):
    """Return the corners of a tile: a ring of two unlike points and two unlike walls."""
    corners = (p, u, q, v)
    _check_corners(picture, corners)
    if p == q or u == v:
        raise BadRing("corner")
    _check_sides(picture, corners)
    return corners


def tiles_of(picture):
    """Return all tiles whose first point and first wall are the lesser ones, ascending."""
    tiles = []
    for p, u in picture.pairs:
        for q, v in picture.pairs:
            if p < q and u < v and picture.is_open((p, v)) and picture.is_open((q, u)):
                tiles.append((p, u, q, v))
    return tuple(tiles)
