"""Sizes of fields [6.1]."""

import unittest

from sheetproofs.errors import BadSize, BadSpan
from sheetproofs.sizes import prime_of_size, sizes_between
from tests.helpers import NO_WHOLES, Case

NO_SIZES = NO_WHOLES + (-3, -2, 0, 1, 6, 10, 12, 15, 100, 19999, 20000, 20001, 20011, 2 ** 15, 3 ** 30, 10 ** 30)


def all_sizes(most):
    """Return the primes and their powers up to a bound with their primes and exponents, by a sieve."""
    composite = [False] * (most + 1)
    found = {}
    for number in range(2, most + 1):
        if composite[number]:
            continue
        for multiple in range(2 * number, most + 1, number):
            composite[multiple] = True
        power, exponent = number, 1
        while power <= most:
            found[power] = (number, exponent)
            power, exponent = power * number, exponent + 1
    return found


class TestSizes(Case):
    def test_small(self):
        self.exactly(prime_of_size(2), (2, 1))
        self.exactly(prime_of_size(8), (2, 3))
        self.exactly(prime_of_size(9), (3, 2))
        self.exactly(prime_of_size(16384), (2, 14))
        self.exactly(prime_of_size(19683), (3, 9))
        self.exactly(prime_of_size(19321), (139, 2))
        self.exactly(prime_of_size(19997), (19997, 1))

    def test_all(self):
        sizes = all_sizes(20000)
        for number in range(-2, 20003):
            if number in sizes:
                self.exactly(prime_of_size(number), sizes[number])
            else:
                self.refused(BadSize, {}, prime_of_size, number)
        self.exactly(sizes_between(0, 20000), tuple(sorted(sizes)))

    def test_no_sizes(self):
        for thing in NO_SIZES:
            self.refused(BadSize, {}, prime_of_size, thing)

    def test_between(self):
        self.exactly(sizes_between(2, 9), (2, 3, 4, 5, 7, 8, 9))
        self.exactly(sizes_between(0, 2), (2,))
        self.exactly(sizes_between(0, 1), ())
        self.exactly(sizes_between(0, 0), ())
        self.exactly(sizes_between(9, 9), (9,))
        self.exactly(sizes_between(10, 10), ())
        self.exactly(sizes_between(9, 8), ())
        self.exactly(sizes_between(20000, 0), ())
        self.exactly(sizes_between(16380, 16385), (16381, 16384))
        self.exactly(sizes_between(24, 26), (25,))
        self.exactly(sizes_between(20, 22), ())

    def test_wrong_bounds(self):
        for thing in NO_WHOLES + (-1, 20001, 10 ** 30):
            self.refused(BadSpan, {"what": "low"}, sizes_between, thing, None)
            self.refused(BadSpan, {"what": "high"}, sizes_between, 0, thing)


if __name__ == "__main__":
    unittest.main()
