"""Goals and least mends [10.7, 10.8]."""

import unittest
from itertools import combinations

from sheetproofs.books import Book
from sheetproofs.counts import count_tables
from sheetproofs.edits import apply_edits
from sheetproofs.errors import BadEdit, BadGoal, BadPool
from sheetproofs.mends import find_mends, goal_met, mend_fault
from sheetproofs.pictures import Picture, full_picture
from sheetproofs.rings import ring_tour
from tests.bookshelf import BARE, SQUARE, TREE, WIDE, row_at, some_books, square_book
from tests.helpers import NO_SEQUENCES, NO_WHOLES, Case, a_random, in_good_time, some_tours
from tests.lattices import in_form
from tests.test_edits import NO_KINDS as NO_EDITS
from tests.test_rings import HEX, some_rings
from tests.test_rings import WRONG as WRONG_RINGS

RING, BACK = (0, 0, 1, 1), (0, 1, 1, 0)
NO_KINDS = NO_SEQUENCES + ((), ("derives",), ("derives", RING), ("derives", RING, 0, 0), ("free", RING), ("tables", 3),
                           ("tables", 3, 1, 1), ("contrary", 0), ["sound", None], ("Sound",), (b"sound",), (None,),
                           ("ring", RING, 0), ("strike", 0), ("",), (["sound"],), (True, RING, 0), "sound")
NO_SIZES = NO_WHOLES + (0, 1, -3, 6, 12, 20001, 10 ** 30)


def derives(book, tour, sign):
    """Tell whether a book derives a saying."""
    return in_form(book.lot, row_at(book.picture, tour) + (sign,))


def is_met(book, goal):
    """Tell whether a goal is met, by the words of point 10.7."""
    if goal[0] == "tables":
        return count_tables(book, goal[1]) >= goal[2]
    if goal[0] in ("contrary", "sound"):
        return derives(book, (0,) * len(book.picture), 1) == (goal[0] == "contrary")
    return derives(book, ring_tour(book.picture, goal[1]), goal[2]) == (goal[0] == "derives")


def state_of(book, goal, pool, choice):
    """Return "edit", "goal" or "mend" for a choice of the pool."""
    try:
        behind = apply_edits(book, [pool[place] for place in choice])
    except BadEdit:
        return "edit"
    if goal[0] in ("derives", "free"):
        sides = [(goal[1][at - at % 2], goal[1][at - 1 + at % 2]) for at in range(len(goal[1]))]
        sides += [(goal[1][at], goal[1][at + 1]) for at in range(0, len(goal[1]), 2)]
        if not set(sides) <= set(behind.picture.pairs):
            return "goal"
    return "mend" if is_met(behind, goal) else "goal"


class GoalCase(Case):
    def check_goal_errors(self, function, *more):
        """Check the errors of a goal for a function of a book and a goal."""
        hexagon, square = Book(HEX, ()), square_book()

        def refuses(what, book, goal):
            self.refused(BadGoal, {"what": what}, function, book, goal, *more)
        for thing in NO_KINDS:
            refuses("kind", square, thing)
        for ring, _ in WRONG_RINGS:
            refuses("corners", hexagon, ("derives", ring, None))
            refuses("corners", hexagon, ["free", ring, None])
        for thing in NO_WHOLES + (2, -1, 10 ** 30):
            refuses("sign", square, ["derives", RING, thing])
            refuses("sign", square, ("free", list(RING), thing))
        for thing in NO_SIZES:
            refuses("size", square, ("tables", thing, None))
        for thing in NO_WHOLES + (-1,):
            refuses("least", square, ("tables", 3, thing))


class TestGoalMet(GoalCase):
    def test_small(self):
        book = square_book((2, 0), (3, 1))
        for goal, met in ((("derives", RING, 1), True), (["derives", list(RING), 0], False),
                          (("free", RING, 1), False), (("free", BACK, 0), True), (("contrary",), False),
                          (["sound"], True), (("tables", 3, 8), True), (["tables", 3, 9], False),
                          (("tables", 3, 0), True), (("tables", 9, 8 ** 3), True),
                          (("tables", 9, 8 ** 3 + 1), False), (("tables", 2, 1), True),
                          (("tables", 2, 2), False), (("tables", 3, 10 ** 300), False)):
            self.assertIs(goal_met(book, goal), met, goal)
        book = square_book((2, 1), (1, 0))
        for goal, met in ((("contrary",), True), (("sound",), False), (("tables", 5, 1), False),
                          (("tables", 5, 0), True), (("tables", 4, 27), True), (("derives", RING, 1), True)):
            self.assertIs(goal_met(book, goal), met, goal)
        self.assertIs(goal_met(Book(BARE, [((), 1)]), ("contrary",)), True)
        self.assertIs(goal_met(Book(BARE, ()), ["tables", 7, 1]), True)

    def test_any_book(self):
        chances = a_random(671)
        seen = {}
        for book, _ in some_books(672):
            goals = [("contrary",), ("sound",)]
            for size in (2, 3, 4, 5, 9, 16):
                goals += [("tables", size, least) for least in (count_tables(book, size), 1, 2,
                                                                count_tables(book, size) + 1)]
            for ring in some_rings(book.picture, chances, 2):
                goals += [(word, ring, sign) for word in ("derives", "free") for sign in (0, 1)]
            for goal in goals:
                self.assertIs(goal_met(book, goal), is_met(book, goal))
                seen[goal[0], goal_met(book, goal)] = True
        self.assertEqual(len(seen), 10)

    def test_errors(self):
        self.check_goal_errors(goal_met)


class TestMends(GoalCase):
    def check(self, book, goal, pool):
        """Check the mends, and the judge of them, against all choices of the pool."""
        states = {choice: state_of(book, goal, pool, choice) for size in range(len(pool) + 1)
                  for choice in combinations(range(len(pool)), size)}
        mends = [choice for choice in states if states[choice] == "mend"]
        least = [choice for choice in mends if not any(set(other) < set(choice) for other in mends)]
        self.exactly(find_mends(book, goal, pool), tuple(least))
        # The judge looks for all mends each time, so of many choices it is asked for some.
        asked = list(states.items())[::1 if len(pool) < 6 else 13]
        for choice, state in asked:
            word = None if choice in least else "least" if state == "mend" else state
            self.assertEqual(mend_fault(book, goal, pool, choice), word)
            self.assertEqual(mend_fault(book, goal, pool, list(choice)), word)
        return [None if choice in least else state for choice, state in asked]

    def test_small(self):
        book = square_book((2, 0))
        pool = [("ring", RING * 3, 0), ("ring", RING, 0), ("strike", 0), ("ring", BACK, 1)]
        self.exactly(find_mends(book, ("derives", RING, 0), pool), ((0,), (1,)))
        self.exactly(find_mends(book, ["free", list(RING), 0], pool), ((),))
        self.exactly(find_mends(book, ("contrary",), tuple(pool)), ((0, 3), (1, 3)))
        self.exactly(find_mends(book, ("sound",), pool), ((),))
        self.exactly(find_mends(book, ("tables", 5, 129), pool), ((2,),))
        self.exactly(find_mends(book, ("tables", 5, 257), pool), ())
        self.exactly(find_mends(square_book((3, 0)), ("derives", RING, 1), pool), ((3,),))
        self.check(book, ("contrary",), pool)

    def test_mends_of_more_edits(self):
        # A part of a choice that is no mend may be one, and one edit more may undo it again.
        book = square_book((1, 0))
        pool = [("strike", 0), ("ring", RING, 0), ("strike", 0), ("ring", RING, 1)]
        for goal in (("derives", RING, 0), ("free", RING, 0), ("contrary",), ("derives", RING, 1),
                     ("tables", 3, 16), ("tables", 5, 1)):
            self.check(book, goal, pool)
        self.exactly(find_mends(book, ("free", RING, 0), pool), ((0,), (2,)))
        self.assertEqual(mend_fault(book, ("free", RING, 0), pool, (0, 1)), "goal")
        self.assertEqual(mend_fault(book, ("free", RING, 0), pool, (0, 2)), "edit")
        self.assertEqual(mend_fault(book, ("free", RING, 0), pool, (0, 1, 2)), "least")
        self.assertEqual(mend_fault(book, ("sound",), pool, (0,)), "least")
        self.assertIsNone(mend_fault(book, ("sound",), pool, ()))

    def test_edits_in_the_order_of_the_pool(self):
        pool = [("ring", RING, 1), ("let", (1, 1)), ("ring", RING, 1)]
        book = Book(TREE, ())
        self.exactly(find_mends(book, ("contrary",), pool), ())
        self.assertEqual(mend_fault(book, ("contrary",), pool, (0, 1)), "edit")
        self.assertEqual(mend_fault(book, ("contrary",), pool, (1, 2)), "goal")
        pool = pool + [("ring", RING, 0), ("strike", 5)]
        self.exactly(find_mends(book, ("contrary",), pool), ((1, 2, 3),))
        self.check(book, ("contrary",), pool)

    def test_goals_that_fit_another_picture(self):
        # Where the ring of the goal is no ring any more, neither derives nor free is met.
        book = square_book((0, 0), (0, 1))
        pool = [("shut", (1, 1)), ("strike", 1)]
        self.exactly(find_mends(book, ("free", RING, 1), pool), ((),))
        self.assertEqual(mend_fault(book, ("free", RING, 1), pool, (0,)), "goal")
        self.assertEqual(mend_fault(book, ("free", RING, 1), pool, (1,)), "least")
        derived = square_book((1, 0), (0, 0))
        self.exactly(find_mends(derived, ("free", RING, 0), [("strike", 0), ("shut", (1, 1))]), ((0,),))
        self.assertEqual(mend_fault(derived, ("free", RING, 0), [("strike", 0), ("shut", (1, 1))], (0, 1)), "goal")
        self.exactly(find_mends(Book(SQUARE, ()), ("derives", RING, 0), [("shut", (0, 0))]), ())
        self.check(book, ("derives", RING, 0), pool + [("ring", RING, 0)])

    def test_no_edits_in_the_pool(self):
        for thing in NO_EDITS:
            pool = [thing, ("ring", RING, 0), thing]
            self.exactly(find_mends(square_book(), ("derives", RING, 0), pool), ((1,),))
            self.assertEqual(mend_fault(square_book(), ("derives", RING, 0), pool, (0, 1)), "edit")
            self.exactly(find_mends(square_book(), ("contrary",), [thing]), ())

    def test_one_and_six_edits(self):
        chances = a_random(673)
        seen = {}
        for book, _ in some_books(674, (SQUARE, WIDE, TREE), 5):
            picture = book.picture
            rings = some_rings(picture, chances, 5)
            edits = [("ring", chances.choice((ring, list(ring))), sign) for ring in rings for sign in (0, 1)]
            edits += [["strike", place] for place in range(3)]
            edits += [(word, (chances.randrange(2), chances.randrange(2))) for word in ("let", "shut")]
            for many in (1, 6):
                pool = chances.sample(edits, many) if many <= len(edits) else edits
                goals = [("contrary",), ("sound",), ("tables", 3, count_tables(book, 3) + 1), ("tables", 5, 1)]
                goals += [(word, ring, sign) for ring in rings[:1] for word in ("derives", "free") for sign in (0, 1)]
                for goal in goals:
                    for state in self.check(book, goal, pool):
                        seen[goal[0], state] = True
        self.assertEqual(len(seen), 20)

    def test_errors_in_their_order(self):
        for thing in NO_SEQUENCES + ((), [], (None,) * 7, [("strike", 0)] * 7):
            self.refused(BadPool, {}, find_mends, square_book(), ("sound",), thing)
            self.refused(BadPool, {}, mend_fault, square_book(), ("sound",), thing, None)
        self.check_goal_errors(find_mends, None)
        self.check_goal_errors(mend_fault, None, None)
        # The corners must be a ring of the book's own picture, whatever the pool lets.
        self.refused(BadGoal, {"what": "corners"}, find_mends, Book(TREE, ()), ("free", RING, 0), [("let", (1, 1))])

    def test_choices(self):
        pool = [("ring", RING, 0), ("ring", RING, 1)]
        for thing in NO_SEQUENCES + ((2,), (-1,), (1, 0), (0, 0), (0, 1, 2), [0, 2], ("0",), ((0,),)) + tuple(
                (thing,) for thing in NO_WHOLES) + tuple((0, thing) for thing in NO_WHOLES):
            self.assertEqual(mend_fault(square_book(), ("contrary",), pool, thing), "choice")
        self.assertIsNone(mend_fault(square_book(), ("contrary",), pool, (0, 1)))
        self.assertIsNone(mend_fault(square_book(), ("contrary",), pool, [0, 1]))

    def test_nothing_passed_in_is_changed(self):
        goal, pool = ["derives", [0, 0, 1, 1], 0], [["ring", [0, 0, 1, 1], 0], ["strike", 0]]
        find_mends(square_book((2, 0)), goal, pool)
        mend_fault(square_book((2, 0)), goal, pool, [0])
        self.assertEqual(goal, ["derives", [0, 0, 1, 1], 0])
        self.assertEqual(pool, [["ring", [0, 0, 1, 1], 0], ["strike", 0]])

    @in_good_time
    def test_great_books(self):
        chances = a_random(675)
        five = full_picture(5, 5)
        for bound in (2, 10 ** 20):
            book = Book(five, [(tour, 0) for tour in some_tours(five, chances, 6, bound)])
            pool = [("ring", ring, k % 2) for k, ring in enumerate(some_rings(five, chances, 3))]
            pool += [("strike", 0), ("strike", 3), ("strike", 2)]
            for goal in (("contrary",), ("tables", 7, 6 ** 22), ("derives", RING, 0)):
                found = find_mends(book, goal, pool)
                self.assertTrue(all(mend_fault(book, goal, pool, choice) is None for choice in found[:2]))

    def test_pictures_without_open_pairs(self):
        picture = Picture(1, 1, ())
        book = Book(picture, [((), 1)])
        self.exactly(find_mends(book, ("sound",), [("let", (0, 0)), ("strike", 0)]), ((1,),))


if __name__ == "__main__":
    unittest.main()
