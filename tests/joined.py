"""Joined pictures to test with, and what is known of them without the package."""

from sheetproofs.books import Book
from sheetproofs.joining import Joining
from sheetproofs.pictures import Picture, full_picture
from tests.bookshelf import a_tour
from tests.helpers import a_random, some_pictures

SQUARE = full_picture(2, 2)
# The example of part 9: joined at all points and walls but for the last wall of each.
EXAMPLE = Joining(SQUARE, SQUARE, [(0, 0), (1, 1)], [(0, 0)])


def some_couples(chances, many, others):
    """Return couples of corners, none twice, as many as must be and often more, in any order."""
    least = max(0, many + others - 5)
    count = chances.choice((least, min(many, others), chances.randint(least, min(many, others))))
    couples = list(zip(chances.sample(range(many), count), chances.sample(range(others), count)))
    chances.shuffle(couples)
    return couples


def some_joinings(seed, many=60):
    """Return joinings of all kinds, at no, some and all points and walls."""
    chances = a_random(seed)
    found = [EXAMPLE, Joining(SQUARE, SQUARE, [], [(1, 0), (0, 1)]), Joining(SQUARE, SQUARE, (), ())]
    pictures = [picture for picture in some_pictures() if picture.points < 5 or picture.walls < 5]
    pictures += [full_picture(2, 2), full_picture(3, 3), full_picture(2, 3), full_picture(3, 2)] * 3
    while len(found) < many:
        one, other = chances.choice(pictures), chances.choice(pictures)
        found.append(Joining(one, other, some_couples(chances, one.points, other.points),
                             some_couples(chances, one.walls, other.walls)))
    return found


def numbers_in_whole(couples, many, others):
    """Return the number in the whole picture of each corner of the second picture, as a dict."""
    partners = {partner: corner for corner, partner in couples}
    left = [corner for corner in range(others) if corner not in partners]
    return {**partners, **{corner: many + at for at, corner in enumerate(left)}}


def pairs_in_whole(joining):
    """Return the pairs of the whole picture for the pairs of the second one."""
    points = numbers_in_whole(joining.points, joining.one.points, joining.other.points)
    walls = numbers_in_whole(joining.walls, joining.one.walls, joining.other.walls)
    return [(points[point], walls[wall]) for point, wall in joining.other.pairs]


def counterpart(joining, saying):
    """Return the saying of the second picture with the same numbers at the shared pairs."""
    numbers = dict(zip(joining.one.pairs, saying[0]))
    return tuple(numbers.get(pair, 0) for pair in pairs_in_whole(joining)), saying[1]


def is_on_shared(joining, saying):
    """Tell whether a saying of the first picture has 0 at all pairs that are not shared."""
    shared = pairs_in_whole(joining)
    return all(number == 0 or pair in shared for pair, number in zip(joining.one.pairs, saying[0]))


def a_book(chances, picture, most=3):
    """Return a book with up to so many premises, some of them zeros."""
    premises = []
    for _ in range(chances.randint(0, most)):
        tour = a_tour(chances, picture, 2) if chances.random() < 0.85 else (0,) * len(picture)
        premises.append((tour, chances.choice((0, 0, 1))))
    return Book(picture, premises)
