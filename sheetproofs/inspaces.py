"""What follows from a book in all spaces over the fields in which two is not zero."""

from sheetproofs.everyprime import Refutal
from sheetproofs.fields import RestField
from sheetproofs.follows import follows_everywhere
from sheetproofs.leastspace import full_of, unit_space


class AgainstSpace:
    """A prime, and a space modulo it that keeps all premises and not the saying."""

    def __init__(self, prime, space):
        self.prime = prime
        self.space = space

    def __eq__(self, other):
        return isinstance(other, AgainstSpace) and self.prime == other.prime and self.space == other.space


def follows_in_spaces(book, saying):
    """Return Contrary, a Derivation, or the AgainstSpace of the least prime."""
    found = follows_everywhere(book, saying)
    if not isinstance(found, Refutal):
        return found
    field = RestField(found.prime)
    return AgainstSpace(found.prime, unit_space(field, full_of(field, book.picture, found.table)))
