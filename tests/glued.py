"""Sheets to test with, glued at random, and what is known of them without the package."""

from sheetproofs.pictures import Picture, full_picture
from sheetproofs.sheets import Sheet
from tests.helpers import a_random
from tests.test_rings import some_rings

SQUARE = full_picture(2, 2)
NINE = full_picture(3, 3)
ALL = full_picture(5, 5)
HEX = Picture(3, 3, [(0, 0), (0, 1), (1, 1), (1, 2), (2, 2), (2, 0)])
LINE = Picture(1, 1, [(0, 0)])
EXAMPLE = ((0, 0, 1, 1, 2, 2), (1, 0, 2, 1, 0, 2), (2, 0, 0, 1, 1, 2))


def sides_of(polygons):
    """Return a dict of all sides, (polygon, number) to (pair, whether it goes forth)."""
    sides = {}
    for polygon, ring in enumerate(polygons):
        for number, corner in enumerate(ring):
            behind = ring[(number + 1) % len(ring)]
            if number % 2 == 0:
                sides[polygon, number] = ((corner, behind), True)
            else:
                sides[polygon, number] = ((behind, corner), False)
    return sides


def by_pairs(polygons):
    """Return for each pair its sides forth and its sides back, ascending."""
    found = {}
    for side, (pair, forth) in sorted(sides_of(polygons).items()):
        found.setdefault(pair, ([], []))[0 if forth else 1].append(side)
    return found


def random_couples(chances, polygons):
    """Return couples that glue the polygons at random; their tours add up to zeros."""
    couples = []
    for forth, back in by_pairs(polygons).values():
        chances.shuffle(back)
        couples += list(zip(forth, back))
    chances.shuffle(couples)
    return couples


def backwards(ring):
    """Return a ring read backwards from its first point."""
    return ring[:1] + ring[:0:-1]


def read_from(ring, point):
    """Return a ring read from another of its points."""
    return ring[2 * point:] + ring[:2 * point]


def fitting_polygons(chances, picture, most=4):
    """Return polygons whose tours add up to zeros: rings, some turned ones, and rings that close."""
    polygons = []
    for ring in some_rings(picture, chances, chances.randint(1, most)):
        ring = ring[:2 * chances.randint(2, 5)]
        if (ring[0], ring[-1]) not in picture.pairs:
            continue
        polygons.append(ring)
        polygons.append(read_from(backwards(ring), chances.randrange(len(ring) // 2)))
        if chances.random() < 0.3:
            # This ring goes to and fro, so that its own tour is zeros.
            polygons.append((ring[0], ring[1]) * chances.choice((2, 3)))
    chances.shuffle(polygons)
    return polygons


def some_sheets(seed, pictures=(LINE, SQUARE, HEX, NINE, ALL), many=10):
    """Return sheets glued at random, a sheet without polygons and the example of part 7 among them."""
    chances = a_random(seed)
    sheets = [Sheet(SQUARE, (), (), ())]
    for _ in range(3):
        signs = [chances.randint(0, 1) for _ in EXAMPLE]
        sheets.append(Sheet(NINE, EXAMPLE, signs, random_couples(chances, EXAMPLE)))
    for picture in pictures:
        for _ in range(many):
            polygons = fitting_polygons(chances, picture)
            signs = [chances.randint(0, 1) for _ in polygons]
            sheets.append(Sheet(picture, polygons, signs, random_couples(chances, polygons)))
    return sheets


def greatest_polygons(seed):
    """Return 60 polygons of 60 corners that can be glued."""
    chances = a_random(seed)
    rings = [tuple(chances.randrange(5) for _ in range(60)) for _ in range(3)]
    polygons = [rings[k % 3] for k in range(30)]
    return polygons + [read_from(backwards(ring), 7) for ring in polygons]


def pieces_of(sheet):
    """Return the pieces, by going over the couples until nothing changes."""
    pieces = [{polygon} for polygon in range(len(sheet.polygons))]
    for (one, _), (other, _) in sheet.couples:
        first = next(piece for piece in pieces if one in piece)
        second = next(piece for piece in pieces if other in piece)
        if first is not second:
            pieces.remove(second)
            first |= second
    return tuple(sorted(tuple(sorted(piece)) for piece in pieces))


def fans_of(sheet):
    """Return the sets of corners of the fans: those that glued sides lay upon each other."""
    fans = {corner: frozenset([corner]) for corner in sides_of(sheet.polygons)}
    for (p, s), (q, t) in sheet.couples:
        ends = (((p, s), (q, (t + 1) % len(sheet.polygons[q]))),
                ((p, (s + 1) % len(sheet.polygons[p])), (q, t)))
        for one, other in ends:
            joined = fans[one] | fans[other]
            for corner in joined:
                fans[corner] = joined
    return set(fans.values())
