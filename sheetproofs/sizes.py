"""Sizes of finite fields: primes and powers of one prime."""

from sheetproofs.errors import BadSize, BadSpan
from sheetproofs.fields import least_factor
from sheetproofs.numbers import is_whole

MOST_SIZE = 20000


def _prime_and_exponent(number):
    """Return the prime and the exponent of a power of one prime, or None for another number."""
    prime = least_factor(number)
    exponent = 0
    while number % prime == 0:
        number = number // prime
        exponent = exponent + 1
    return (prime, exponent) if number == 1 else None


def prime_of_size(size):
    """Return the prime and the exponent of a size."""
    if not is_whole(size, 2, MOST_SIZE):
        raise BadSize()
    found = _prime_and_exponent(size)
    if found is None:
        raise BadSize()
    return found


def sizes_between(low, high):
    """Return all sizes from low to high."""
    if not is_whole(low, 0, MOST_SIZE):
        raise BadSpan("low")
    if not is_whole(high, 0, MOST_SIZE):
        raise BadSpan("high")
    return tuple([number for number in range(max(low, 2), high + 1)
                  if _prime_and_exponent(number) is not None])
