"""What follows from a book in the tables over every field in which two is not zero."""

from sheetproofs.books import derivation_of
from sheetproofs.errors import TooMany
from sheetproofs.everyprime import follows_modulo, least_refuting_prime
from sheetproofs.fields import MOST_PRIME
from sheetproofs.sayings import check_saying, minus_saying


class Contrary:
    """Numbers that add the premises up to the minus saying."""

    def __init__(self, numbers):
        self.numbers = numbers

    def __eq__(self, other):
        return isinstance(other, Contrary) and self.numbers == other.numbers


class Derivation:
    """Numbers that add the premises up to the saying."""

    def __init__(self, numbers):
        self.numbers = numbers

    def __eq__(self, other):
        return isinstance(other, Derivation) and self.numbers == other.numbers


def follows_everywhere(book, saying):
    """Return Contrary, a Derivation, or the Refutal modulo the least prime."""
    asked = check_saying(book.picture, saying)
    numbers = derivation_of(book, minus_saying(book.picture))
    if numbers is not None:
        return Contrary(numbers)
    numbers = derivation_of(book, asked)
    if numbers is not None:
        return Derivation(numbers)
    prime = least_refuting_prime(book, asked)
    if prime is None:
        raise TooMany(MOST_PRIME)
    return follows_modulo(book, asked, prime)
