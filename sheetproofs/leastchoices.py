"""Premises that a derivation needs: needed ones, least choices and least breaks."""

from sheetproofs.books import derives, lifted_row
from sheetproofs.choices import least_good_choices
from sheetproofs.errors import NotDerived, TooMany
from sheetproofs.leads import form_of_rows, form_with_row, rest_by

MOST_CHOSEN = 8


def _check_derived(book, saying):
    """Raise NotDerived if the book does not derive the saying."""
    if not derives(book, saying):
        raise NotDerived()


def needed_places(book, saying):
    """Return the places without whose premise the book does not derive the saying."""
    _check_derived(book, saying)
    return tuple([place for place in range(len(book)) if not derives(book.without_premise(place), saying)])


def least_choices(book, saying):
    """Return the least choices of premises that derive the saying, by size and then in their order."""
    if len(book) > MOST_CHOSEN:
        raise TooMany(MOST_CHOSEN)
    _check_derived(book, saying)
    row = lifted_row(book.picture, saying)
    premises = [lifted_row(book.picture, premise) for premise in book.premises]
    signs = form_of_rows([(0,) * (len(row) - 1) + (2,)])
    return least_good_choices(len(premises), signs, lambda form, place: form_with_row(form, premises[place]),
                              lambda form: not any(rest_by(form, row)))


def least_breaks(book, saying):
    """Return the least choices of premises without which the saying is not derived, in the same order."""
    choices = least_choices(book, saying)
    # The saying is not derived any more exactly if a premise of each least choice is gone.
    return least_good_choices(len(book), choices,
                              lambda left, place: [choice for choice in left if place not in choice],
                              lambda left: len(left) == 0)
