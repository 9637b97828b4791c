"""Edits of a book: rings put behind its premises, premises struck, pairs let and shut."""

from sheetproofs.books import MOST_PREMISES, Book
from sheetproofs.errors import BadEdit, BadPicture
from sheetproofs.numbers import is_sign, is_whole
from sheetproofs.rings import is_ring, ring_saying
from sheetproofs.sequences import has_between, is_sequence
from sheetproofs.tours import led_tour

MOST_EDITS = 20
# The first word of each kind of edit, and how long such an edit is.
KINDS = (("ring", 3), ("strike", 2), ("let", 2), ("shut", 2))


def is_of_kind(thing, kinds):
    """Tell whether the thing is a sequence with the first word and the length of one of the kinds."""
    return is_sequence(thing) and len(thing) > 0 and (thing[0], len(thing)) in kinds


def ring_saying_fault(picture, corners, sign):
    """Return None for a ring of the picture and a sign, else the first word that applies."""
    if not is_ring(picture, corners):
        return "corners"
    return None if is_sign(sign) else "sign"


def _is_shut(picture, thing):
    """Tell whether the thing is a couple of a point and a wall that is not open."""
    try:
        picture.with_pair(thing)
    except BadPicture:
        return False
    return True


def _shut_fault(book, pair):
    """Return None for a pair that can be shut, else the first word that applies."""
    if not book.picture.is_open(pair):
        return "pair"
    place = book.picture.place_of(pair)
    return "premise" if any([tour[place] != 0 for tour, _ in book.premises]) else None


def _edit_fault(book, edit):
    """Return None for an edit that can be made, else the first word that applies."""
    if not is_of_kind(edit, KINDS):
        return "kind"
    kind = edit[0]
    if kind == "ring":
        word = ring_saying_fault(book.picture, edit[1], edit[2])
        return "full" if word is None and len(book) == MOST_PREMISES else word
    if kind == "strike":
        return None if is_whole(edit[1], 0, len(book) - 1) else "place"
    if kind == "let":
        return None if _is_shut(book.picture, edit[1]) else "pair"
    return _shut_fault(book, edit[1])


def _edited(book, edit):
    """Return the book behind an edit that can be made."""
    picture = book.picture
    kind = edit[0]
    if kind == "ring":
        return book.with_premise(ring_saying(picture, edit[1], edit[2]))
    if kind == "strike":
        return book.without_premise(edit[1])
    changed = picture.with_pair(edit[1]) if kind == "let" else picture.without_pair(edit[1])
    return Book(changed, [(led_tour(picture, changed, tour), sign) for tour, sign in book.premises])


def apply_edit(book, edit):
    """Return the book behind an edit."""
    fault = _edit_fault(book, edit)
    if fault is not None:
        raise BadEdit(0, fault)
    return _edited(book, edit)


def books_behind(book, edits):
    """Return a list of the books behind each of the edits, made one after the other."""
    if not has_between(edits, 0, MOST_EDITS):
        raise BadEdit(-1, "many")
    behind = []
    for index, edit in enumerate(edits):
        fault = _edit_fault(book, edit)
        if fault is not None:
            raise BadEdit(index, fault)
        book = _edited(book, edit)
        behind.append(book)
    return behind


def apply_edits(book, edits):
    """Return the book behind all edits, made one after the other."""
    behind = books_behind(book, edits)
    return behind[-1] if behind else book


def plain_edit(edit):
    """Return an edit that can be made as a tuple, its corners or its pair as a tuple too."""
    return tuple([tuple(part) if is_sequence(part) else part for part in edit])
