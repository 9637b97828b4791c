"""Sheets made of derivations, and the numbers of derivations read off sheets."""

from sheetproofs.errors import BadNumbers, BadPremise, BadSign, NotPremise, NotSum, TooMany
from sheetproofs.gluing import glue_in_order
from sheetproofs.numbers import is_sign, is_whole
from sheetproofs.rings import check_ring, is_ring_saying, turned_ring
from sheetproofs.sequences import has_between, wrong_index
from sheetproofs.sheets import MOST_POLYGONS, check_place, rings_alike, sheet_sign

MOST_SAYINGS = 16


def _check_premises(picture, premises):
    """Raise BadPremise for anything but a sequence of up to 16 ring sayings."""
    if not has_between(premises, 0, MOST_SAYINGS):
        raise BadPremise(-1)
    index = wrong_index(premises, None, lambda thing: is_ring_saying(picture, thing))
    if index is not None:
        raise BadPremise(index)


def sheet_for(picture, premises, numbers, corners, sign):
    """Return the sheet of the premises, each so many times, and of the turned ring asked for."""
    _check_premises(picture, premises)
    index = wrong_index(numbers, len(premises), is_whole)
    if index is not None:
        raise BadNumbers(index)
    asked = check_ring(picture, corners)
    if not is_sign(sign):
        raise BadSign()
    if sum([abs(number) for number in numbers]) >= MOST_POLYGONS:
        raise TooMany(MOST_POLYGONS)
    polygons = []
    signs = []
    for (ring, ring_sign), number in zip(premises, numbers):
        polygon = ring if number >= 0 else turned_ring(ring)
        polygons = polygons + [polygon] * abs(number)
        signs = signs + [ring_sign] * abs(number)
    sheet = glue_in_order(picture, polygons + [turned_ring(asked)], signs + [sign])
    if sheet_sign(sheet) != 0:
        raise NotSum(-1)
    return sheet


def _first_alike(premises, ring, sign):
    """Return the first place of a premise with this sign and a ring alike this one, or None."""
    for place, (corners, told) in enumerate(premises):
        if told == sign and rings_alike(corners, ring):
            return place
    return None


def numbers_from(sheet, place, premises):
    """Return how often each premise stands in the sheet without one polygon, turned ones less."""
    check_place(sheet, place)
    _check_premises(sheet.picture, premises)
    numbers = [0] * len(premises)
    for polygon, ring in enumerate(sheet.polygons):
        if polygon == place:
            continue
        step = 1
        found = _first_alike(premises, ring, sheet.signs[polygon])
        if found is None:
            step = -1
            # A ring is alike the turned one of another exactly if this holds the other way round.
            found = _first_alike(premises, turned_ring(ring), sheet.signs[polygon])
        if found is None:
            raise NotPremise(polygon)
        numbers[found] = numbers[found] + step
    return tuple(numbers)
