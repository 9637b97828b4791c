"""Goals that a book may meet, and the least choices of edits that mend it."""

from sheetproofs.books import derives
from sheetproofs.choices import least_good_choices
from sheetproofs.counts import count_tables
from sheetproofs.edits import apply_edit, apply_edits, is_of_kind, ring_saying_fault
from sheetproofs.errors import BadEdit, BadGoal, BadPool, BadSize
from sheetproofs.numbers import is_whole
from sheetproofs.rings import is_ring, ring_saying
from sheetproofs.sayings import minus_saying
from sheetproofs.sequences import has_between, wrong_index
from sheetproofs.sizes import prime_of_size

MOST_EDITS = 6
# The first word of each kind of goal, and how long such a goal is.
KINDS = (("derives", 3), ("free", 3), ("tables", 3), ("contrary", 1), ("sound", 1))


def _is_size(thing):
    """Tell whether the thing is the size of a field."""
    try:
        prime_of_size(thing)
    except BadSize:
        return False
    return True


def _goal_fault(picture, goal):
    """Return None for a goal, else the first word that applies."""
    if not is_of_kind(goal, KINDS):
        return "kind"
    kind = goal[0]
    if kind in ("derives", "free"):
        return ring_saying_fault(picture, goal[1], goal[2])
    if kind == "tables":
        if not _is_size(goal[1]):
            return "size"
        return None if is_whole(goal[2], 0) else "least"
    return None


def _is_met(book, goal):
    """Tell whether the book meets a goal, which may have been made for another picture."""
    kind = goal[0]
    if kind == "tables":
        return count_tables(book, goal[1]) >= goal[2]
    if kind in ("contrary", "sound"):
        return derives(book, minus_saying(book.picture)) == (kind == "contrary")
    if not is_ring(book.picture, goal[1]):
        return False
    return derives(book, ring_saying(book.picture, goal[1], goal[2])) == (kind == "derives")


def _check_goal(book, goal):
    """Raise BadGoal for anything but a goal of the picture of the book."""
    fault = _goal_fault(book.picture, goal)
    if fault is not None:
        raise BadGoal(fault)


def goal_met(book, goal):
    """Tell whether the book meets the goal."""
    _check_goal(book, goal)
    return _is_met(book, goal)


def _check_pool(book, goal, pool):
    """Raise BadGoal, then BadPool for anything but a sequence of 1 to 6 items."""
    _check_goal(book, goal)
    if not has_between(pool, 1, MOST_EDITS):
        raise BadPool()


def _edited_or_none(book, edit):
    """Return the book behind an edit, or None if it is refused."""
    try:
        return apply_edit(book, edit)
    except BadEdit:
        return None


def find_mends(book, goal, pool):
    """Return the least choices of edits of the pool behind which the book meets the goal."""
    _check_pool(book, goal, pool)
    return least_good_choices(len(pool), book, lambda reached, place: _edited_or_none(reached, pool[place]),
                              lambda reached: _is_met(reached, goal))


def _is_choice(thing, many):
    """Tell whether the thing is an ascending sequence of unlike places out of so many."""
    if wrong_index(thing, None, lambda place: is_whole(place, 0, many - 1)) is not None:
        return False
    return all([thing[at - 1] < thing[at] for at in range(1, len(thing))])


def mend_fault(book, goal, pool, choice):
    """Return None for a least choice of edits that mends the book, else the first word."""
    _check_pool(book, goal, pool)
    if not _is_choice(choice, len(pool)):
        return "choice"
    try:
        behind = apply_edits(book, [pool[place] for place in choice])
    except BadEdit:
        return "edit"
    if not _is_met(behind, goal):
        return "goal"
    return None if tuple(choice) in find_mends(book, goal, pool) else "least"
