"""One formula for the numbers of figures over all fields of odd size, and what it tells of primes."""

from sheetproofs.counts import lets_table
from sheetproofs.errors import BadSize
from sheetproofs.fields import MOST_PRIME, is_prime, least_factor
from sheetproofs.numbers import common_divisor, power_of
from sheetproofs.sizes import prime_of_size, sizes_between
from sheetproofs.splits import last_twos, turned_tours


class Formula:
    """The divisor, the constant, the free numbers and the others, from which figures are counted."""

    def __init__(self, divisor, constant, free, numbers):
        self.divisor = divisor
        self.constant = constant
        self.free = free
        self.numbers = numbers

    def __eq__(self, other):
        return (isinstance(other, Formula) and self.divisor == other.divisor
                and self.constant == other.constant and self.free == other.free
                and self.numbers == other.numbers)

    def many_at(self, size):
        """Return the number of figures for an odd size."""
        prime, _ = prime_of_size(size)
        if prime == 2:
            raise BadSize()
        if (size - 1) % self.divisor != 0:
            return 0
        many = self.constant * power_of(size - 1, self.free)
        for number in self.numbers:
            many = many * common_divisor(number, (size - 1) // self.divisor)
        return many


def formula_of(book):
    """Return the formula of a book, or None if it is contrary."""
    twos = last_twos(book)
    if twos is None:
        return None
    divisor = power_of(2, twos + 1)
    constant = 1
    free = 0
    left = []
    for number in turned_tours(book).numbers:
        if number == 0:
            free = free + 1
            continue
        # The divisor is a power of two, so this is the greatest one that divides both.
        taken = common_divisor(number, divisor)
        constant = constant * taken
        if number != taken:
            left.append(number // taken)
    return Formula(divisor, constant, free, tuple(left))


def _many_by(formula, prime):
    """Return the number of figures modulo an odd prime; a contrary book has no formula."""
    return 0 if formula is None else formula.many_at(prime)


def unlike_prime(one, other):
    """Return the least odd prime modulo which two books have other numbers of figures, or None."""
    first = formula_of(one)
    second = formula_of(other)
    if first == second:
        return None
    for number in range(3, MOST_PRIME + 1, 2):
        if is_prime(number) and _many_by(first, number) != _many_by(second, number):
            return number
    return None


def least_prime_with(book):
    """Return the least odd prime modulo which a table keeps the book, or None if it is contrary."""
    twos = last_twos(book)
    if twos is None:
        return None
    divisor = power_of(2, twos + 1)
    prime = divisor + 1
    while least_factor(prime) != prime:
        prime = prime + divisor
    return prime


def sizes_with(book, low, high):
    """Return all sizes from low to high with a table that keeps the book."""
    sizes = sizes_between(low, high)
    twos = last_twos(book)
    return tuple([size for size in sizes if lets_table(twos, size)])
