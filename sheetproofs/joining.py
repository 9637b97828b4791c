"""Two pictures joined at points and walls, and sayings carried between them and the whole picture."""

from sheetproofs.books import MOST_PREMISES, Book
from sheetproofs.errors import BadJoin, OtherPicture, TooMany
from sheetproofs.leads import as_tuples
from sheetproofs.numbers import is_whole
from sheetproofs.pictures import MOST_CORNERS, Picture
from sheetproofs.sayings import check_saying
from sheetproofs.sequences import is_sequence, wrong_index


def _are_couples(thing, many, others):
    """Tell whether the thing is a sequence of couples of a corner below each number, none twice."""
    index = wrong_index(thing, None, lambda couple: (
        is_sequence(couple, 2) and is_whole(couple[0], 0, many - 1) and is_whole(couple[1], 0, others - 1)))
    if index is not None:
        return False
    firsts = [couple[0] for couple in thing]
    seconds = [couple[1] for couple in thing]
    return len(set(firsts)) == len(thing) and len(set(seconds)) == len(thing)


class Joining:
    """Two pictures, and which points and walls of the one are points and walls of the other."""

    def __init__(self, one, other, points, walls):
        if not _are_couples(points, one.points, other.points):
            raise BadJoin("points")
        if not _are_couples(walls, one.walls, other.walls):
            raise BadJoin("walls")
        if one.points + other.points - len(points) > MOST_CORNERS:
            raise BadJoin("many")
        if one.walls + other.walls - len(walls) > MOST_CORNERS:
            raise BadJoin("many")
        self.one = one
        self.other = other
        self.points = as_tuples(sorted([tuple(couple) for couple in points]))
        self.walls = as_tuples(sorted([tuple(couple) for couple in walls]))

    def __eq__(self, other):
        return (isinstance(other, Joining) and self.one == other.one and self.other == other.other
                and self.points == other.points and self.walls == other.walls)


def _numbers_in_whole(couples, many, others):
    """Return the number in the whole picture of each corner of the second picture."""
    numbers = [None] * others
    for corner, partner in couples:
        numbers[partner] = corner
    behind = many
    for corner in range(others):
        if numbers[corner] is None:
            numbers[corner] = behind
            behind = behind + 1
    return numbers


def pairs_of_second(joining):
    """Return the pairs of the whole picture that are the open pairs of the second, in their order."""
    one = joining.one
    other = joining.other
    points = _numbers_in_whole(joining.points, one.points, other.points)
    walls = _numbers_in_whole(joining.walls, one.walls, other.walls)
    return [(points[point], walls[wall]) for point, wall in other.pairs]


def whole_picture(joining):
    """Return the picture of all points, walls and open pairs of both pictures."""
    one = joining.one
    other = joining.other
    counterparts = pairs_of_second(joining)
    more = [pair for pair in counterparts if not one.is_open(pair)]
    return Picture(one.points + other.points - len(joining.points),
                   one.walls + other.walls - len(joining.walls), list(one.pairs) + more)


def shared_pairs(joining):
    """Return the pairs of the first picture that are open in both, ascending."""
    counterparts = pairs_of_second(joining)
    return tuple([pair for pair in joining.one.pairs if pair in counterparts])


def _carried(tour, pairs, others):
    """Return the numbers of a tour at its pairs as a row for other pairs, or None if some do not fit."""
    numbers = [0] * len(others)
    for pair, number in zip(pairs, tour):
        if pair in others:
            numbers[others.index(pair)] = number
        elif number != 0:
            return None
    return tuple(numbers)


def _carried_saying(saying, pairs, others):
    """Return the saying with the same numbers at the same pairs, or None if some do not fit."""
    tour, sign = saying
    numbers = _carried(tour, pairs, others)
    return None if numbers is None else (numbers, sign)


def first_saying(joining, saying):
    """Return a saying of the first picture as a saying of the whole picture."""
    checked = check_saying(joining.one, saying)
    return _carried_saying(checked, joining.one.pairs, whole_picture(joining).pairs)


def second_saying(joining, saying):
    """Return a saying of the second picture as a saying of the whole picture."""
    checked = check_saying(joining.other, saying)
    return _carried_saying(checked, pairs_of_second(joining), whole_picture(joining).pairs)


def back_to_first(joining, saying):
    """Return the saying of the first picture that is carried to this one, or None."""
    whole = whole_picture(joining)
    return _carried_saying(check_saying(whole, saying), whole.pairs, joining.one.pairs)


def back_to_second(joining, saying):
    """Return the saying of the second picture that is carried to this one, or None."""
    whole = whole_picture(joining)
    return _carried_saying(check_saying(whole, saying), whole.pairs, pairs_of_second(joining))


def check_second(joining, other_book):
    """Raise OtherPicture if the book is not on the second picture."""
    if other_book.picture != joining.other:
        raise OtherPicture()


def check_books(joining, one_book, other_book):
    """Raise OtherPicture if the books are not on the first and on the second picture."""
    if one_book.picture != joining.one:
        raise OtherPicture()
    check_second(joining, other_book)


def whole_book(joining, one_book, other_book):
    """Return the book of the premises of both books on the whole picture."""
    check_books(joining, one_book, other_book)
    if len(one_book) + len(other_book) > MOST_PREMISES:
        raise TooMany(MOST_PREMISES)
    return Book(whole_picture(joining), [first_saying(joining, saying) for saying in one_book.premises]
                + [second_saying(joining, saying) for saying in other_book.premises])
