"""Books to test with, and what follows from them, found by going through all tables."""

from itertools import product

from sheetproofs.books import Book
from sheetproofs.pictures import Picture, full_picture
from tests.helpers import a_random, closing_tours

SQUARE = full_picture(2, 2)
WIDE = full_picture(2, 3)
NINE = full_picture(3, 3)
TREE = Picture(2, 2, [(0, 0), (0, 1), (1, 0)])
BARE = Picture(3, 1, ())
APART = Picture(4, 4, [(0, 0), (0, 1), (1, 0), (1, 1), (2, 2), (2, 3), (3, 2), (3, 3)])
R = (1, -1, -1, 1)
PICTURES = (BARE, TREE, SQUARE, WIDE, APART, NINE)
PRIMES = (3, 5, 7, 11, 13)
TOURS = {}


def times(whole, tour=R):
    """Return a tour multiplied by a whole number."""
    return tuple(whole * number for number in tour)


def square_book(*premises):
    """Return a book on the square: so many times the one basis tour, each with a sign."""
    return Book(SQUARE, [(times(whole), sign) for whole, sign in premises])


def basis_of(picture):
    """Return the tours of the rings that pairs close, by their places, found without the package."""
    key = (picture.points, picture.walls, picture.pairs)
    if key not in TOURS:
        TOURS[key] = closing_tours(picture)
    return TOURS[key]


def row_at(picture, tour):
    """Return the numbers of a tour at the pairs that are no tree pairs."""
    return tuple(tour[place] for place in basis_of(picture))


def tour_with(picture, row):
    """Return the tour with these numbers at the pairs that are no tree pairs."""
    tour = (0,) * len(picture)
    for number, basis in zip(row, basis_of(picture).values()):
        tour = tuple(a + number * b for a, b in zip(tour, basis))
    return tour


def a_tour(chances, picture, bound=3):
    """Return a tour with small numbers, often a multiple of a simple one."""
    many = chances.choice((1, 1, 2, 3, 4, 6))
    return tour_with(picture, [many * chances.randint(-bound, bound) for _ in basis_of(picture)])


def some_books(seed, pictures=PICTURES, many=12):
    """Return couples (book, saying); some sayings are sums of the premises, some nearly so."""
    chances = a_random(seed)
    found = []
    for picture in pictures:
        for _ in range(many):
            premises = [(a_tour(chances, picture), chances.choice((0, 0, 1)))
                        for _ in range(chances.randint(0, 4))]
            book = Book(picture, premises)
            tour, sign = a_tour(chances, picture, 2), chances.randint(0, 1)
            if premises and chances.random() < 0.6:
                part = a_tour(chances, picture, 1) if chances.random() < 0.5 else (0,) * len(picture)
                numbers = [chances.randint(-2, 2) for _ in premises]
                tour, sign = added_up(picture, premises, numbers, (part, chances.randint(0, 1)),
                                      chances.choice((1, 2, 4, 6)))
            found.append((book, (tour, sign)))
    return found


def added_up(picture, premises, numbers, part=None, often=0):
    """Return the sum of the premises by the numbers and of the part taken so often."""
    total, signs = [0] * len(picture), 0
    if part is not None:
        premises, numbers = list(premises) + [part], list(numbers) + [often]
    for (tour, sign), number in zip(premises, numbers):
        total = [a + number * b for a, b in zip(total, tour)]
        signs += number * sign
    return tuple(total), signs % 2


def steps_that_keep(book, modulus, half):
    """Return all rows of steps at the pairs that are no tree pairs with which all premises hold."""
    told = [(row_at(book.picture, tour), sign) for tour, sign in book.premises]
    rows = []
    for row in product(range(modulus), repeat=len(basis_of(book.picture))):
        if all((sum(a * b for a, b in zip(tour, row)) - sign * half) % modulus == 0 for tour, sign in told):
            rows.append(row)
    return rows


def word_modulo(book, saying, prime):
    """Return "none", "follows" or "refuted" by all figures of tables modulo an odd prime."""
    modulus, half = prime - 1, (prime - 1) // 2
    rows = steps_that_keep(book, modulus, half)
    if not rows:
        return "none"
    tour = row_at(book.picture, saying[0])
    holds = [(sum(a * b for a, b in zip(tour, row)) - saying[1] * half) % modulus == 0 for row in rows]
    return "follows" if all(holds) else "refuted"


def primes_to(most):
    """Return the odd primes up to a bound."""
    return [n for n in range(3, most + 1, 2) if all(n % k for k in range(3, int(n ** 0.5) + 1, 2))]
