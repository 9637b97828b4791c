"""The elementary numbers of rows, with the tables that lead to them, and relations of rows."""

from sheetproofs.forms import check_rows, marked_form
from sheetproofs.leads import (as_tuples, beside, columns_of, quotients_by, sum_of_products,
                               tails_behind, unit_rows)


class Elementary:
    """The elementary numbers and the tables that make them of the rows, with their undoing tables."""

    def __init__(self, numbers, left, right, left_back, right_back):
        self.numbers = numbers
        self.left = left
        self.right = right
        self.left_back = left_back
        self.right_back = right_back

    def __eq__(self, other):
        return (isinstance(other, Elementary) and self.numbers == other.numbers
                and self.left == other.left and self.right == other.right
                and self.left_back == other.left_back and self.right_back == other.right_back)


def relations_of(width, rows):
    """Return the form of all rows of numbers that make the row of zeros of the rows."""
    return as_tuples(tails_behind(width, marked_form(check_rows(width, rows))))


def _product(rows, others):
    """Return the product of two tables, rows by columns."""
    columns = columns_of(len(others[0]), others)
    return [[sum_of_products(row, column) for column in columns] for row in rows]


def _formed(rows, width):
    """Return turns times the rows, which is a form with zeros below; the turns; what undoes them."""
    marked = marked_form(rows)
    backs = [quotients_by(marked, row) for row in beside(rows, unit_rows(len(rows)))]
    return [row[:width] for row in marked], [row[width:] for row in marked], backs


def _followed(turns, backs, table, back):
    """Return a table with its first rows turned, and the table that undoes it."""
    many = len(turns)
    turned = _product(turns, table[:many]) + table[many:]
    undone = _product([row[:many] for row in back], backs)
    return turned, beside(undone, [row[many:] for row in back])


def _is_diagonal(core):
    """Tell whether all numbers off the diagonal are 0."""
    for at, row in enumerate(core):
        if any(row[:at]) or any(row[at + 1:]):
            return False
    return True


def _undivided(core):
    """Return the first place of a diagonal whose number does not divide the next one, or None."""
    for at in range(len(core) - 1):
        if core[at + 1][at + 1] % core[at][at] != 0:
            return at
    return None


class Turning:
    """A square core that is turned to a diagonal, with all that was done to rows and columns.

    The tables of the columns are kept flipped, so that columns are turned as rows are.
    """

    def __init__(self, width, rows):
        heads, self.left, self.left_back = _formed(rows, width)
        top = [head for head in heads if any(head)]
        self.rank = len(top)
        sides, self.right, self.right_back = _formed(columns_of(width, top), self.rank)
        self.core = columns_of(self.rank, sides[:self.rank])

    def turn_rows(self):
        """Bring the rows of the core to their form."""
        self.core, turns, backs = _formed(self.core, self.rank)
        self.left, self.left_back = _followed(turns, backs, self.left, self.left_back)

    def turn_columns(self):
        """Bring the columns of the core to their form."""
        sides, turns, backs = _formed(columns_of(self.rank, self.core), self.rank)
        self.core = columns_of(self.rank, sides)
        self.right, self.right_back = _followed(turns, backs, self.right, self.right_back)

    def make_diagonal(self):
        """Turn rows and columns until all numbers off the diagonal are 0."""
        while not _is_diagonal(self.core):
            self.turn_rows()
            self.turn_columns()

    def add_next_column(self, place):
        """Add the next column of the core to the one at the place."""
        turns = unit_rows(self.rank)
        turns[place][place + 1] = 1
        backs = unit_rows(self.rank)
        backs[place][place + 1] = -1
        self.core = _product(self.core, columns_of(self.rank, turns))
        self.right, self.right_back = _followed(turns, backs, self.right, self.right_back)

    def settle(self):
        """Make the core diagonal, with numbers each of which divides the next."""
        self.make_diagonal()
        place = _undivided(self.core)
        while place is not None:
            # The rows then come to their form with the common divisor of the two in the upper place.
            self.add_next_column(place)
            self.make_diagonal()
            place = _undivided(self.core)


def elementary_rows(width, rows):
    """Return the elementary numbers of the rows and the four tables that show them."""
    kept = check_rows(width, rows)
    turning = Turning(width, kept)
    turning.settle()
    numbers = [turning.core[at][at] for at in range(turning.rank)]
    return Elementary(tuple(numbers + [0] * (width - turning.rank)),
                      as_tuples(turning.left), as_tuples(columns_of(width, turning.right)),
                      as_tuples(turning.left_back), as_tuples(columns_of(width, turning.right_back)))
