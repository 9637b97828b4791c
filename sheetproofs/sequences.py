"""What counts as a sequence, and where the first wrong item of one stands."""

from sheetproofs.numbers import is_whole


def is_sequence(thing, length=None):
    """Tell whether the thing is a list or a tuple, of this length if one is given."""
    if not isinstance(thing, (list, tuple)):
        return False
    return length is None or len(thing) == length


def has_between(thing, low, high):
    """Tell whether the thing is a list or a tuple of low to high items."""
    return is_sequence(thing) and low <= len(thing) and len(thing) <= high


def wrong_index(thing, length, is_good):
    """Return -1 for no sequence of this length, else the index of the first wrong item, or None.

    Where the length is None, any length is let.
    """
    if not is_sequence(thing, length):
        return -1
    for index, item in enumerate(thing):
        if not is_good(item):
            return index
    return None


def is_whole_row(thing, length):
    """Tell whether the thing is a sequence of this many whole numbers."""
    return wrong_index(thing, length, is_whole) is None
