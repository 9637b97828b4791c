"""Tables of two joined pictures put together to a table of the whole picture."""

from sheetproofs.bases import basis_tours
from sheetproofs.figures import Unlike, same_figure
from sheetproofs.joining import pairs_of_second, whole_picture
from sheetproofs.pictures import Picture
from sheetproofs.tables import check_table, scaled_table


class Joined:
    """A table of the whole picture, and the factors of the points and walls of the second one."""

    def __init__(self, table, points, walls):
        self.table = table
        self.points = points
        self.walls = walls

    def __eq__(self, other):
        return (isinstance(other, Joined) and self.table == other.table
                and self.points == other.points and self.walls == other.walls)


class Parted:
    """A tour on the shared pairs, and its worths in two tables, which differ."""

    def __init__(self, numbers, one_worth, other_worth):
        self.numbers = numbers
        self.one_worth = one_worth
        self.other_worth = other_worth

    def __eq__(self, other):
        return (isinstance(other, Parted) and self.numbers == other.numbers
                and self.one_worth == other.one_worth and self.other_worth == other.other_worth)


def _shared_places(joining):
    """Return couples of the places of the shared pairs in the second and in the first picture."""
    one = joining.one
    return [(place, one.place_of(pair)) for place, pair in enumerate(pairs_of_second(joining)) if one.is_open(pair)]


def _whole_table(joining, one_table, other_table):
    """Return the table of the whole picture of two tables with the same numbers at shared pairs."""
    numbers = {}
    for pair, number in zip(pairs_of_second(joining), other_table):
        numbers[pair] = number
    for pair, number in zip(joining.one.pairs, one_table):
        numbers[pair] = number
    return tuple([numbers[pair] for pair in whole_picture(joining).pairs])


def _parted_by(joining, places, tour, unlike):
    """Return the Parted of a tour on the shared pairs of the second picture, with its unlike worths."""
    numbers = [0] * len(joining.one)
    for (_, place), number in zip(places, tour):
        numbers[place] = number
    return Parted(tuple(numbers), unlike.second, unlike.first)


def join_tables(joining, field, first, second):
    """Return the Joined table of two tables, or a tour on the shared pairs that keeps them Parted."""
    other = joining.other
    one_table = check_table(field, joining.one, first)
    other_table = check_table(field, other, second)
    places = _shared_places(joining)
    shared = Picture(other.points, other.walls, [other.pairs[place] for place, _ in places])
    found = same_figure(field, shared, [other_table[place] for place, _ in places],
                        [one_table[place] for _, place in places])
    if isinstance(found, Unlike):
        return _parted_by(joining, places, basis_tours(shared)[found.place], found)
    scaled = scaled_table(field, other, other_table, found.points, found.walls)
    return Joined(_whole_table(joining, one_table, scaled), found.points, found.walls)
