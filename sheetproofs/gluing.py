"""Polygons glued to sheets: in order, in all ways, and with the fewest handles."""

from math import factorial

from sheetproofs.errors import BadCouple, BadSheet, NotAlike, NotSum, TooMany
from sheetproofs.fans import handles_of
from sheetproofs.numbers import is_whole
from sheetproofs.rings import ring_sides
from sheetproofs.sheets import Sheet, polygons_fault, signs_fault

MOST_GLUINGS = 720


def _check_polygons(picture, polygons):
    """Raise BadSheet if the polygons are no sequence of rings."""
    fault = polygons_fault(picture, polygons)
    if fault is not None:
        what, place = fault
        raise BadSheet(what, place)


def _check_signs(polygons, signs):
    """Raise BadSheet if the signs are no sequence of one sign for each polygon."""
    fault = signs_fault(polygons, signs)
    if fault is not None:
        what, place = fault
        raise BadSheet(what, place)


def _sides_by_place(picture, polygons):
    """Return for each open pair its sides forth and its sides back, both ascending."""
    forth = [[] for _ in picture.pairs]
    back = [[] for _ in picture.pairs]
    for polygon, ring in enumerate(polygons):
        for number, (pair, step) in enumerate(ring_sides(ring)):
            place = picture.place_of(pair)
            if step == 1:
                forth[place].append((polygon, number))
            else:
                back[place].append((polygon, number))
    return forth, back


def _first_unlike(forth, back):
    """Return the first place with other numbers of sides forth and back, or None."""
    for place in range(len(forth)):
        if len(forth[place]) != len(back[place]):
            return place
    return None


def glue_in_order(picture, polygons, signs):
    """Return the sheet in which the sides of each open pair are glued in ascending order."""
    _check_polygons(picture, polygons)
    _check_signs(polygons, signs)
    forth, back = _sides_by_place(picture, polygons)
    place = _first_unlike(forth, back)
    if place is not None:
        raise NotSum(place)
    couples = []
    for place in range(len(forth)):
        couples = couples + list(zip(forth[place], back[place]))
    return Sheet(picture, polygons, signs, couples)


def count_gluings(picture, polygons):
    """Return the number of sheets with these polygons and one row of signs."""
    _check_polygons(picture, polygons)
    forth, back = _sides_by_place(picture, polygons)
    if _first_unlike(forth, back) is not None:
        return 0
    many = 1
    for sides in forth:
        many = many * factorial(len(sides))
    return many


def _all_couples(picture, polygons):
    """Return the couples of all gluings, ascending, for polygons whose tours add up to zeros."""
    forth, back = _sides_by_place(picture, polygons)
    places = {}
    for place, sides in enumerate(forth):
        for side in sides:
            places[side] = place
    rows = [()]
    # The couples of a sheet are ordered by their sides forth, so the rows grow in this order.
    for side in sorted(list(places)):
        mates = back[places[side]]
        rows = [row + ((side, mate),) for row in rows for mate in mates
                if mate not in [taken for _, taken in row]]
    return rows


def all_gluings(picture, polygons, signs):
    """Yield all sheets with these polygons and signs, ascending by their couples."""
    first = glue_in_order(picture, polygons, signs)
    if count_gluings(first.picture, first.polygons) > MOST_GLUINGS:
        raise TooMany(MOST_GLUINGS)
    for couples in _all_couples(first.picture, first.polygons):
        yield Sheet(first.picture, first.polygons, first.signs, couples)


def swapped_sheet(sheet, one, other):
    """Return the sheet in which the sides back of two couples on one open pair are exchanged."""
    couples = list(sheet.couples)
    most = len(couples) - 1
    if not is_whole(one, 0, most) or not is_whole(other, 0, most):
        raise BadCouple()
    forth, back = couples[one]
    other_forth, other_back = couples[other]
    if one == other or sheet.side_pair(forth) != sheet.side_pair(other_forth):
        raise NotAlike()
    couples[one] = (forth, other_back)
    couples[other] = (other_forth, back)
    return Sheet(sheet.picture, sheet.polygons, sheet.signs, couples)


def fewest_handles(picture, polygons, signs):
    """Return the first gluing whose handles are fewest."""
    best = None
    fewest = None
    for sheet in all_gluings(picture, polygons, signs):
        handles = sum(handles_of(sheet))
        if fewest is None or handles < fewest:
            best = sheet
            fewest = handles
    return best
