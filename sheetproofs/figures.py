"""Figures: tables that become one another when points and walls are given factors."""

from sheetproofs.bases import basis_tours, other_places, tree_places
from sheetproofs.errors import BadFactors, TooMany
from sheetproofs.fields import RestField, is_number
from sheetproofs.numbers import is_whole, power_of
from sheetproofs.tables import basis_worths, check_table, scaled_table, table_of

MOST_TABLES = 20000


class Factors:
    """The factors of the points and of the walls that make one table of another."""

    def __init__(self, points, walls):
        self.points = points
        self.walls = walls

    def __eq__(self, other):
        return (isinstance(other, Factors) and self.points == other.points
                and self.walls == other.walls)


class Unlike:
    """A basis tour and its two worths, which differ."""

    def __init__(self, place, first, second):
        self.place = place
        self.first = first
        self.second = second

    def __eq__(self, other):
        return (isinstance(other, Unlike) and self.place == other.place
                and self.first == other.first and self.second == other.second)


def _first_factors(field, picture):
    """Return the factors of all points and walls, None where the pairs have yet to tell them."""
    points = [None] * picture.points
    walls = [None] * picture.walls
    for inside, beside in picture.pieces:
        if inside:
            points[inside[0]] = field.one
        else:
            walls[beside[0]] = field.one
    return points, walls


def _factors_between(field, picture, one, other):
    """Return the factors that make the table other of the table one of the same figure."""
    points, walls = _first_factors(field, picture)
    # A tree pair leads from a known corner to the next one; each round finds one at least.
    while None in points or None in walls:
        for place in tree_places(picture):
            point, wall = picture.pairs[place]
            ratio = field.quotient(other[place], one[place])
            if points[point] is not None:
                walls[wall] = field.quotient(ratio, points[point])
            elif walls[wall] is not None:
                points[point] = field.quotient(ratio, walls[wall])
    return Factors(tuple(points), tuple(walls))


def same_figure(field, picture, one, other):
    """Return the Factors that make other of one, or the first basis tour with Unlike worths."""
    first = check_table(field, picture, one)
    second = check_table(field, picture, other)
    worths = basis_worths(field, picture, first)
    others = basis_worths(field, picture, second)
    for place in range(len(worths)):
        if worths[place] != others[place]:
            return Unlike(place, worths[place], others[place])
    return _factors_between(field, picture, first, second)


def factors_fault(field, picture, one, other, factors):
    """Return None if the factors make other of one, else the first word that tells why not."""
    first = check_table(field, picture, one)
    second = check_table(field, picture, other)
    try:
        scaled = scaled_table(field, picture, first, factors.points, factors.walls)
    except BadFactors as error:
        return error.what
    return None if scaled == second else "pair"


def _is_this(field, thing, number):
    """Tell whether the thing is this number of the field; a bool is none, though it may be equal."""
    return is_number(field, thing) and thing == number


def unlike_fault(field, picture, one, other, unlike):
    """Return None if a basis tour has these unlike worths, else the first word that tells why not."""
    first = check_table(field, picture, one)
    second = check_table(field, picture, other)
    worths = basis_worths(field, picture, first)
    others = basis_worths(field, picture, second)
    place = unlike.place
    if not is_whole(place, 0, len(worths) - 1):
        return "place"
    if not _is_this(field, unlike.first, worths[place]):
        return "worths"
    if not _is_this(field, unlike.second, others[place]):
        return "worths"
    return "alike" if worths[place] == others[place] else None


def plain_form(field, picture, table):
    """Return the table of the same figure that is one at all tree pairs."""
    return table_of(field, picture, basis_worths(field, picture, table))


def _count_rows(field, length):
    """Return the number of rows of so many numbers other than zero, or None if there is no end."""
    if isinstance(field, RestField):
        return power_of(field.prime - 1, length)
    return 1 if length == 0 else None


def count_plain(field, picture):
    """Return the number of different figures, or None if there is no end of them."""
    return _count_rows(field, len(other_places(picture)))


def plain_tables(field, picture):
    """Yield all plain forms in ascending order."""
    many = count_plain(field, picture)
    if many is None or many > MOST_TABLES:
        raise TooMany(MOST_TABLES)
    places = other_places(picture)
    for index in range(many):
        table = [field.one] * len(picture)
        left = index
        for at in range(len(places) - 1, -1, -1):
            table[places[at]] = left % (field.prime - 1) + 1
            left = left // (field.prime - 1)
        yield tuple(table)


def _completed(field, row, tour, worth):
    """Return the number behind the row that gives the tour, which has 1 there, this worth."""
    for number, exponent in zip(row, tour):
        worth = field.quotient(worth, field.power(number, exponent))
    return worth


def tables_alike(field, picture, table):
    """Return all tables of the same figure, ascending."""
    numbers = check_table(field, picture, table)
    tree = tree_places(picture)
    many = _count_rows(field, len(tree))
    if many is None or many > MOST_TABLES:
        raise TooMany(MOST_TABLES)
    worths = basis_worths(field, picture, numbers)
    tours = basis_tours(picture)
    rows = [()]
    found = 0
    # A basis tour has its last number at its own place, so the places before tell the number there.
    for place in range(len(picture)):
        if place in tree:
            rows = [row + (number,) for row in rows for number in range(1, field.prime)]
        else:
            rows = [row + (_completed(field, row, tours[found], worths[found]),) for row in rows]
            found = found + 1
    return tuple(rows)
