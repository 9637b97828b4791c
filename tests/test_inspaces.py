"""What follows from books in all spaces [8.13]."""

import unittest

from sheetproofs.books import Book
from sheetproofs.errors import BadSaying, TooMany
from sheetproofs.everyprime import Refutal
from sheetproofs.fields import RestField
from sheetproofs.follows import Contrary, Derivation, follows_everywhere
from sheetproofs.inspaces import AgainstSpace, follows_in_spaces
from sheetproofs.leastspace import unit_space
from sheetproofs.pictures import Picture, full_picture
from sheetproofs.ranks import rows_unbound
from sheetproofs.ringmeets import Common, Through, common_point, wall_through
from sheetproofs.rings import ring_saying
from sheetproofs.spaces import Space, full_table_of, picture_of, table_of_space
from sheetproofs.tables import first_broken, holds_in
from tests.bookshelf import BARE, R, SQUARE, TREE, some_books, square_book
from tests.helpers import Case, a_random
from tests.linear import SEVEN
from tests.test_rings import some_rings
from tests.test_sayings import WRONG as WRONG_SAYINGS


class TestFollowsInSpaces(Case):
    def answer(self, book, saying):
        """Check what is returned, and return its class, or the prime of a space."""
        known, found = follows_everywhere(book, saying), follows_in_spaces(book, saying)
        if not isinstance(known, Refutal):
            self.assertTrue(found == known)
            return found.__class__
        self.assertIsInstance(found, AgainstSpace)
        self.exactly(found.prime, known.prime)
        space = found.space
        self.assertIsInstance(space, Space)
        self.assertTrue(space.field == RestField(found.prime))
        self.assertTrue(picture_of(space) == book.picture)
        self.assertTrue(space == unit_space(space.field, full_table_of(space)))
        self.assertTrue(rows_unbound(space.field, space.points))
        table = table_of_space(space)
        self.assertIsNone(first_broken(space.field, book.picture, table, book.premises))
        self.assertIs(holds_in(space.field, book.picture, table, saying), False)
        return found.prime

    def test_small(self):
        self.assertEqual(self.answer(square_book((3, 0)), (R, 0)), 7)
        self.assertIs(self.answer(square_book((3, 1), (2, 0)), [list(R), 1]), Derivation)
        self.assertIs(self.answer(square_book((2, 1), (1, 0)), (R, 0)), Contrary)
        self.assertEqual(self.answer(square_book(), (R, 0)), 3)
        self.assertIs(self.answer(square_book(), ((0, 0, 0, 0), 0)), Derivation)

    def test_walls_of_zeros(self):
        self.assertEqual(self.answer(Book(BARE, ()), ((), 1)), 3)
        self.assertEqual(follows_in_spaces(Book(BARE, ()), ((), 1)).space.width, 4)
        self.assertEqual(self.answer(Book(TREE, ()), ((0, 0, 0), 1)), 3)
        picture = Picture(2, 3, [(0, 0), (0, 2), (1, 0), (1, 2)])
        self.assertEqual(self.answer(Book(picture, ()), (R, 0)), 3)
        self.assertEqual(follows_in_spaces(Book(picture, ()), (R, 0)).space.width, 3)

    def test_any_book(self):
        seen = {Contrary: 0, Derivation: 0, 3: 0, 5: 0, 7: 0}
        for book, saying in some_books(561):
            found = self.answer(book, saying)
            seen[found] = seen.get(found, 0) + 1
        self.assertGreater(min(seen.values()), 0)

    def test_walls_and_points_of_rings(self):
        chances = a_random(562)
        seen = 0
        for picture in (SQUARE, full_picture(3, 3), full_picture(4, 4)):
            for ring in some_rings(picture, chances, 20):
                ring = ring[:2 * chances.randint(2, 4)]
                points = ring[::2]
                if (ring[0], ring[-1]) not in picture.pairs or len(set(points)) < len(points):
                    continue
                for sign in (0, 1):
                    found = follows_in_spaces(Book(picture, ()), ring_saying(picture, ring, sign))
                    if isinstance(found, AgainstSpace):
                        seen += 1
                        if sign == 0:
                            self.assertNotIsInstance(wall_through(found.space, ring), Through)
                        if sign == len(points) % 2:
                            self.assertNotIsInstance(common_point(found.space, ring), Common)
        self.assertGreater(seen, 10)

    def test_errors(self):
        for saying, what in WRONG_SAYINGS:
            self.refused(BadSaying, {"what": what}, follows_in_spaces, square_book((1, 0)), saying)
        for whole in (10007, 10 ** 200 + 357):
            self.refused(TooMany, {"most": 20000}, follows_in_spaces, square_book((whole, 0)), (R, 0))

    def test_nothing_passed_in_is_changed(self):
        saying = [list(R), 0]
        follows_in_spaces(Book(SQUARE, [saying]), saying)
        follows_in_spaces(Book(SQUARE, ()), saying)
        self.assertEqual(saying, [[1, -1, -1, 1], 0])

    def test_result(self):
        self.check_result(AgainstSpace, "prime space")
        one = AgainstSpace(7, Space(SEVEN, [(1,)], [(1,)]))
        self.assertTrue(one == AgainstSpace(7, Space(RestField(7), [[1]], [[1]])))
        self.assertFalse(one == AgainstSpace(7, Space(SEVEN, [(1,)], [(2,)])))
        self.assertFalse(one == Refutal(7, one.space))


if __name__ == "__main__":
    unittest.main()
