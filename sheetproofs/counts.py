"""How many tables over a field keep a book, and how many figures they have."""

from sheetproofs.bases import other_places, placed_row
from sheetproofs.books import book_rows, lifted_row, tour_rows
from sheetproofs.fields import RestField, source_of
from sheetproofs.figures import plain_tables
from sheetproofs.leads import sum_of_products
from sheetproofs.numbers import common_divisor, is_whole, power_of
from sheetproofs.readings import reading_modulo
from sheetproofs.sayings import minus_saying
from sheetproofs.sequences import wrong_index
from sheetproofs.sizes import prime_of_size
from sheetproofs.splits import last_twos, turned_tours


def minus_steps(size):
    """Return the steps of minus one in the field of a size."""
    return (size - 1) // 2 if size % 2 == 1 else 0


def lets_table(twos, size):
    """Tell whether a book with this number of last twos has a table over the field of a size."""
    if size % 2 == 0:
        return True
    return twos is not None and (size - 1) % power_of(2, twos + 1) == 0


def has_table(book, size):
    """Tell whether a table over the field keeps the book."""
    prime_of_size(size)
    return lets_table(last_twos(book), size)


def count_figures(book, size):
    """Return the number of figures of tables over the field that keep the book."""
    if not has_table(book, size):
        return 0
    many = 1
    for number in turned_tours(book).numbers:
        many = many * common_divisor(number, size - 1)
    return many


def count_tables(book, size):
    """Return the number of tables over the field that keep the book."""
    picture = book.picture
    free = picture.points + picture.walls - len(picture.pieces)
    return count_figures(book, size) * power_of(size - 1, free)


def steps_for(book, size):
    """Return a step table, or None if there is none."""
    picture = book.picture
    prime, _ = prime_of_size(size)
    # Where one and minus one are equal, the table of ones keeps every book.
    if prime == 2:
        return (0,) * len(picture)
    minus = lifted_row(picture, minus_saying(picture))
    reading = reading_modulo(len(minus), book_rows(book), minus, size - 1)
    return None if reading is None else placed_row(picture, reading.numbers[:-1], 0)


def _keeps_steps(tour, sign, steps, size):
    """Return whether a saying, its tour without tree pairs or with them, holds for these steps."""
    return (sum_of_products(tour, steps) - sign * minus_steps(size)) % (size - 1) == 0


def steps_fault(book, size, steps):
    """Return None for a step table of the book, else the first word that tells why not."""
    prime_of_size(size)
    many = len(book.picture)
    if wrong_index(steps, many, lambda number: is_whole(number, 0, size - 2)) is not None:
        return "row"
    if all([_keeps_steps(tour, sign, steps, size) for tour, sign in book.premises]):
        return None
    return "premise"


def _all_steps(field):
    """Return a list of the steps of each number of the field, 0 for zero."""
    source = source_of(field)
    steps = [0] * field.prime
    reached = field.one
    for exponent in range(field.prime - 1):
        steps[reached] = exponent
        reached = field.times(reached, source)
    return steps


def list_figures(book, prime):
    """Return the rows of worths of the basis tours in the figures modulo a prime that keep the book."""
    field = RestField(prime)
    places = other_places(book.picture)
    rows = tour_rows(book)
    signs = [sign for _, sign in book.premises]
    steps_of_numbers = _all_steps(field)
    figures = []
    for table in plain_tables(field, book.picture):
        worths = tuple([table[place] for place in places])
        steps = [steps_of_numbers[worth] for worth in worths]
        if all([_keeps_steps(row, sign, steps, prime) for row, sign in zip(rows, signs)]):
            figures.append(worths)
    return tuple(figures)


def figures_over_fractions(book):
    """Return the number of figures of tables over the fractions that keep the book, None if unending."""
    if last_twos(book) != 0:
        return 0
    many = 1
    for number in turned_tours(book).numbers:
        if number == 0:
            return None
        many = many * common_divisor(number, 2)
    return many
