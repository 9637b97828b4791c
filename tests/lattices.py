"""Lots of rows worked out apart from the package, to check what it returns."""

import random
from itertools import product


def lead(row):
    """Return the place of the first number that is not 0, or None."""
    for place, number in enumerate(row):
        if number:
            return place
    return None


def is_form(rows):
    """Tell whether rows are the form of their lot, as point 4.3 says."""
    leads = [lead(row) for row in rows]
    if None in leads or leads != sorted(set(leads)):
        return False
    for at, place in enumerate(leads):
        if rows[at][place] <= 0:
            return False
        for before in rows[:at]:
            if not 0 <= before[place] < rows[at][place]:
                return False
    return True


def in_form(form, row):
    """Tell whether a row is in the lot of a form, going through its leads once."""
    row = list(row)
    for known in form:
        place = lead(known)
        times, rest = divmod(row[place], known[place])
        if rest:
            return False
        row = [a - times * b for a, b in zip(row, known)]
    return not any(row)


def total(width, rows, numbers):
    """Return the sum of the rows by the numbers."""
    return tuple(sum(n * row[k] for n, row in zip(numbers, rows)) for k in range(width))


def box(width, bound):
    """Return all rows with numbers from -bound to bound."""
    return list(product(range(-bound, bound + 1), repeat=width))


def dot(one, other):
    """Return the sum of products."""
    return sum(a * b for a, b in zip(one, other))


def multiplied(rows, others, width):
    """Return the product of two tables, rows by columns."""
    return [[sum(a * others[k][j] for k, a in enumerate(row)) for j in range(width)] for row in rows]


def determinant(rows):
    """Return the determinant of a small square table."""
    if not rows:
        return 1
    return sum((-1) ** at * rows[0][at] * determinant([row[:at] + row[at + 1:] for row in rows[1:]])
               for at in range(len(rows)) if rows[0][at])


def random_rows(chances, width, many, bound):
    """Return rows of random numbers, as lists or tuples."""
    kind = chances.choice((list, tuple))
    return kind(kind(chances.randint(-bound, bound) for _ in range(width)) for _ in range(many))


def bound_rows(chances, width, many, bound):
    """Return rows of which only a few are unbound."""
    few = random_rows(chances, width, chances.randint(0, max(1, width // 2)), bound)
    return [total(width, few, [chances.randint(-3, 3) for _ in few]) for _ in range(many)]


def some_lots(seed, sizes=((0, 0), (0, 3), (1, 0), (1, 3), (2, 0), (2, 2), (2, 4), (3, 1), (3, 3), (3, 5)),
              bounds=(1, 3, 9, 50)):
    """Return couples (width, rows) of many kinds."""
    chances = random.Random(seed)
    lots = []
    for width, many in sizes:
        for bound in bounds:
            lots.append((width, random_rows(chances, width, many, bound)))
            lots.append((width, bound_rows(chances, width, many, bound)))
            lots.append((width, [tuple(chances.choice((2, 4, 6)) * n for n in row)
                                 for row in random_rows(chances, width, many, bound)]))
    return lots
