"""Rings that part a tour: they sum to it and nothing is struck."""

from sheetproofs.errors import TooMany
from sheetproofs.rings import is_ring, ring_sides, ring_tour
from sheetproofs.sequences import wrong_index
from sheetproofs.tours import check_tour, no_tour, tour_size, tour_sum

MOST_SIZE = 2000


def _next_corner(picture, numbers, corners):
    """Return a corner to which a side that is left goes on from the last of the corners."""
    forth = len(corners) % 2 == 1
    for (point, wall), number in zip(picture.pairs, numbers):
        if forth and point == corners[-1] and number > 0:
            return wall
        if not forth and wall == corners[-1] and number < 0:
            return point
    return None


def _round_of(corners):
    """Return the ring that the last corner closes, or None if it is met for the first time."""
    last = len(corners) - 1
    for at in range(last % 2, last, 2):
        if corners[at] == corners[last]:
            ring = corners[at:last]
            # A ring begins with a point; at an odd place stands a wall.
            return ring if at % 2 == 0 else ring[1:] + ring[:1]
    return None


def _ring_within(picture, numbers):
    """Return a ring that passes no corner twice, along the numbers of a tour other than zeros."""
    start = [pair[0] for pair, number in zip(picture.pairs, numbers) if number > 0]
    corners = start[:1]
    ring = None
    # Every corner that a side leads to is left by another one, so the walk goes on until it closes.
    while ring is None:
        corners.append(_next_corner(picture, numbers, corners))
        ring = _round_of(corners)
    return tuple(ring)


def rings_of(picture, tour):
    """Return rings that part the tour."""
    numbers = list(check_tour(picture, tour))
    if tour_size(picture, tour) > MOST_SIZE:
        raise TooMany(MOST_SIZE)
    rings = []
    while any(numbers):
        ring = _ring_within(picture, numbers)
        rings.append(ring)
        for pair, step in ring_sides(ring):
            place = picture.place_of(pair)
            numbers[place] = numbers[place] - step
    return tuple(rings)


def rings_fault(picture, tour, rings):
    """Return None if the rings part the tour, else the first word that tells why not."""
    wanted = check_tour(picture, tour)
    if wrong_index(rings, None, lambda ring: is_ring(picture, ring)) is not None:
        return "ring"
    total = no_tour(picture)
    for ring in rings:
        total = tour_sum(picture, total, ring_tour(picture, ring))
    if total != wanted:
        return "sum"
    if sum([len(ring) for ring in rings]) != tour_size(picture, tour):
        return "struck"
    return None
