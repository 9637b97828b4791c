"""Fields: the remainders modulo a prime, and the fractions."""

from sheetproofs.errors import BadNumber, BadPrime, ByZero
from sheetproofs.numbers import common_divisor, is_whole, power_of
from sheetproofs.sequences import wrong_index

MOST_PRIME = 20000


def least_factor(number):
    """Return the least prime that divides a whole number from 2."""
    factor = 2
    while factor * factor <= number:
        if number % factor == 0:
            return factor
        factor = factor + 1
    return number


def is_prime(number):
    """Tell whether the thing is a prime from 2 to 20000."""
    return is_whole(number, 2, MOST_PRIME) and least_factor(number) == number


def is_number(field, thing):
    """Tell whether the thing is a number of the field."""
    try:
        field.check_number(thing)
    except BadNumber:
        return False
    return True


def is_number_row(field, thing, length):
    """Tell whether the thing is a sequence of this many numbers of the field."""
    return wrong_index(thing, length, lambda item: is_number(field, item)) is None


def source_of(field):
    """Return the least number whose powers are all numbers of the field but 0."""
    steps = field.prime - 1
    shorter = []
    left = steps
    while left > 1:
        factor = least_factor(left)
        shorter.append(steps // factor)
        left = left // factor
    number = 1
    # The powers of a number come round early exactly if one of these powers is one.
    while any([field.power(number, exponent) == field.one for exponent in shorter]):
        number = number + 1
    return number


def steps_of(field, number):
    """Return the least exponent from 0 with which the source makes the number."""
    if field.check_number(number) == field.zero:
        raise BadNumber()
    source = source_of(field)
    steps = 0
    reached = field.one
    while reached != number:
        reached = field.times(reached, source)
        steps = steps + 1
    return steps


class RestField:
    """The whole numbers from 0 to prime - 1, modulo the prime."""

    def __init__(self, prime):
        if not is_prime(prime):
            raise BadPrime()
        self.prime = prime
        self.zero = 0
        self.one = 1
        self.minus_one = prime - 1

    def __eq__(self, other):
        return isinstance(other, RestField) and self.prime == other.prime

    def check_number(self, number):
        """Return the number, or raise BadNumber if it is none of the field."""
        if not is_whole(number, 0, self.prime - 1):
            raise BadNumber()
        return number

    def number_of(self, whole):
        """Return the remainder of a whole number."""
        return whole % self.prime

    def plus(self, one, other):
        """Return the sum of two numbers."""
        return (one + other) % self.prime

    def less(self, one, other):
        """Return the difference of two numbers."""
        return (one - other) % self.prime

    def times(self, one, other):
        """Return the product of two numbers."""
        return one * other % self.prime

    def quotient(self, one, other):
        """Return the quotient of two numbers."""
        return self.times(one, self.power(other, -1))

    def power(self, number, exponent):
        """Return the power of a number with a whole exponent of any size."""
        if exponent == 0:
            return self.one
        if number == self.zero:
            if exponent < 0:
                raise ByZero()
            return self.zero
        # The powers come round after prime - 1 steps, so the exponent may be cut down to its rest.
        left = exponent % (self.prime - 1)
        result = self.one
        while left > 0:
            if left % 2 == 1:
                result = self.times(result, number)
            number = self.times(number, number)
            left = left // 2
        return result


def _fraction(top, bottom):
    """Return a fraction in lowest terms with a bottom above 0."""
    divisor = common_divisor(top, bottom)
    if bottom < 0:
        divisor = -divisor
    return top // divisor, bottom // divisor


class FractionField:
    """The fractions, each a tuple (top, bottom) in lowest terms."""

    def __init__(self):
        self.zero = (0, 1)
        self.one = (1, 1)
        self.minus_one = (-1, 1)

    def __eq__(self, other):
        return isinstance(other, FractionField)

    def check_number(self, number):
        """Return the number, or raise BadNumber if it is no fraction in lowest terms."""
        if not isinstance(number, tuple) or len(number) != 2:
            raise BadNumber()
        top, bottom = number
        if not is_whole(top) or not is_whole(bottom, 1) or common_divisor(top, bottom) != 1:
            raise BadNumber()
        return number

    def number_of(self, whole):
        """Return the fraction that a whole number is."""
        return whole, 1

    def plus(self, one, other):
        """Return the sum of two fractions."""
        return _fraction(one[0] * other[1] + other[0] * one[1], one[1] * other[1])

    def less(self, one, other):
        """Return the difference of two fractions."""
        return _fraction(one[0] * other[1] - other[0] * one[1], one[1] * other[1])

    def times(self, one, other):
        """Return the product of two fractions."""
        return _fraction(one[0] * other[0], one[1] * other[1])

    def quotient(self, one, other):
        """Return the quotient of two fractions."""
        if other == self.zero:
            raise ByZero()
        return _fraction(one[0] * other[1], one[1] * other[0])

    def power(self, number, exponent):
        """Return the power of a fraction with a whole exponent."""
        if exponent < 0:
            number = self.quotient(self.one, number)
            exponent = -exponent
        top, bottom = number
        return power_of(top, exponent), power_of(bottom, exponent)
