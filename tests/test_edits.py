"""Edits of a book [10.6]."""

import unittest

from sheetproofs.books import Book
from sheetproofs.edits import apply_edit, apply_edits
from sheetproofs.errors import BadEdit
from sheetproofs.pictures import Picture, full_picture
from sheetproofs.rings import ring_tour
from tests.bookshelf import R, SQUARE, TREE, WIDE, square_book, times
from tests.helpers import NO_SEQUENCES, NO_WHOLES, Case, a_random, some_pictures, some_tours
from tests.test_rings import HEX, some_rings
from tests.test_rings import WRONG as WRONG_RINGS

RING = (0, 0, 1, 1)
GREAT = 10 ** 299
# Things that are no edits, whatever the book.
NO_KINDS = NO_SEQUENCES + ((), [], ("ring",), ("ring", RING), ("ring", RING, 0, 0), ("strike",), ("strike", 0, 0),
                           ("let",), ("let", (0, 0), 0), ("shut", 0, 0), ("Ring", RING, 0), ("rings", RING, 0),
                           (b"ring", RING, 0), ("", 0), (None, 0), (0, 1), (["let"], (0, 0)), (("let",), (0, 0)),
                           ("derives", RING, 0), ("contrary",), [True, 0], ({}, 0))
NO_PAIRS = NO_SEQUENCES + ((), (0,), (0, 0, 0), (2, 0), (0, 2), (-1, 0), (0, -1), (True, 0), (0, False), ("0", "0"))


class EditCase(Case):
    def refuses(self, what, book, edit):
        """Check that an edit is refused, alone and behind others."""
        self.refused(BadEdit, {"index": 0, "what": what}, apply_edit, book, edit)
        self.refused(BadEdit, {"index": 0, "what": what}, apply_edits, book, [edit, None])


class TestRing(EditCase):
    def test_small(self):
        book = square_book((2, 1))
        found = apply_edit(book, ["ring", [0, 0, 1, 1], 0])
        self.assertIsInstance(found, Book)
        self.assertTrue(found == square_book((2, 1), (1, 0)))
        self.assertTrue(apply_edit(found, ("ring", (0, 0, 0, 0), 1)) == square_book((2, 1), (1, 0), (0, 1)))
        self.assertTrue(book == square_book((2, 1)))

    def test_any_ring(self):
        chances = a_random(661)
        for picture in some_pictures():
            book = Book(picture, [(tour, 1) for tour in some_tours(picture, chances, 2)])
            for ring in some_rings(picture, chances, 2):
                found = apply_edit(book, ("ring", ring, 1))
                self.assertTrue(found.picture == picture)
                self.exactly(found.premises, book.premises + ((ring_tour(picture, ring), 1),))

    def test_refused(self):
        book = Book(HEX, ())
        for ring, _ in WRONG_RINGS:
            self.refuses("corners", book, ("ring", ring, None))
        full = square_book(*[(1, 0)] * 10)
        for thing in NO_WHOLES + (2, -1, 10 ** 30):
            self.refuses("sign", square_book(), ("ring", RING, thing))
            self.refuses("sign", full, ["ring", RING, thing])
        self.refuses("corners", full, ("ring", (0, 0, 1, 2), 2))
        self.refuses("full", full, ("ring", RING, 0))
        self.assertEqual(len(apply_edit(full.without_premise(4), ("ring", RING, 0))), 10)


class TestStrike(EditCase):
    def test_small(self):
        book = square_book((1, 0), (2, 1), (3, 0))
        self.assertTrue(apply_edit(book, ("strike", 0)) == square_book((2, 1), (3, 0)))
        self.assertTrue(apply_edit(book, ["strike", 1]) == square_book((1, 0), (3, 0)))
        self.assertTrue(apply_edit(book, ("strike", 2)) == square_book((1, 0), (2, 1)))

    def test_refused(self):
        book = square_book((1, 0), (2, 1))
        for thing in NO_WHOLES + (-1, 2, 10 ** 30):
            self.refuses("place", book, ("strike", thing))
        self.refuses("place", square_book(), ("strike", 0))


class TestPairs(EditCase):
    def test_let(self):
        found = apply_edit(Book(TREE, [((0, 0, 0), 1)]), ("let", [1, 1]))
        self.assertTrue(found == square_book((0, 1)))
        picture = Picture(2, 3, [(0, 0), (0, 2), (1, 0), (1, 2)])
        found = apply_edit(Book(picture, [(times(GREAT), 1), (R, 0)]), ("let", (0, 1)))
        self.assertTrue(found.picture == Picture(2, 3, [(0, 0), (0, 1), (0, 2), (1, 0), (1, 2)]))
        self.exactly(found.premises, (((GREAT, 0, -GREAT, -GREAT, GREAT), 1), ((1, 0, -1, -1, 1), 0)))

    def test_shut(self):
        book = Book(WIDE, [((5, 0, -5, -5, 0, 5), 1), ((0,) * 6, 0)])
        found = apply_edit(book, ("shut", [0, 1]))
        self.assertTrue(found.picture == Picture(2, 3, [(0, 0), (0, 2), (1, 0), (1, 1), (1, 2)]))
        self.exactly(found.premises, (((5, -5, -5, 0, 5), 1), ((0,) * 5, 0)))
        found = apply_edit(found, ["shut", (1, 1)])
        self.exactly(found.premises, (((5, -5, -5, 5), 1), ((0,) * 4, 0)))
        self.assertTrue(apply_edits(found, [("let", (1, 1)), ("let", (0, 1))]) == book)

    def test_any_pair(self):
        chances = a_random(662)
        for picture in some_pictures():
            book = Book(picture, [(tour, 0) for tour in some_tours(picture, chances, 3, 1)])
            for pair in [(p, w) for p in range(picture.points) for w in range(picture.walls)]:
                if pair not in picture.pairs:
                    self.refuses("pair", book, ("shut", pair))
                    found = apply_edit(book, ("let", pair))
                    self.assertTrue(found.picture == picture.with_pair(pair))
                    place = found.picture.pairs.index(pair)
                    self.assertEqual([tour[place] for tour, _ in found], [0, 0, 0])
                    self.assertEqual([tour[:place] + tour[place + 1:] for tour, _ in found],
                                     [tour for tour, _ in book])
                    self.assertTrue(apply_edit(found, ("shut", pair)) == book)
                    continue
                self.refuses("pair", book, ("let", pair))
                place = picture.pairs.index(pair)
                if any(tour[place] for tour, _ in book):
                    self.refuses("premise", book, ("shut", pair))
                else:
                    found = apply_edit(book, ("shut", pair))
                    self.assertTrue(apply_edit(found, ("let", pair)) == book)

    def test_refused(self):
        for thing in NO_PAIRS:
            for book in (Book(TREE, ()), square_book((1, 0))):
                self.refuses("pair", book, ("let", thing))
                self.refuses("pair", book, ("shut", thing))
        self.refuses("pair", square_book(), ("let", (1, 1)))
        self.refuses("pair", Book(TREE, ()), ("shut", [1, 1]))
        self.refuses("premise", square_book((0, 0), (1, 0)), ("shut", (0, 0)))


class TestEdits(EditCase):
    def test_kind(self):
        for thing in NO_KINDS:
            self.refuses("kind", square_book((1, 0)), thing)

    def test_several(self):
        book = Book(TREE, ())
        edits = [("let", (1, 1)), ("ring", RING, 1), ["ring", [0, 1, 1, 0], 0], ("strike", 0)]
        found = apply_edits(book, edits)
        self.assertTrue(found == square_book((-1, 0)))
        self.assertTrue(apply_edits(book, ()) == book)
        self.assertTrue(apply_edits(book, []) == book)
        self.assertTrue(book == Book(TREE, ()))
        self.assertEqual(edits, [("let", (1, 1)), ("ring", RING, 1), ["ring", [0, 1, 1, 0], 0], ("strike", 0)])

    def test_the_first_that_is_refused(self):
        book = Book(TREE, ())
        for edits, index, what in (
                ([("ring", RING, 1), None], 0, "corners"), ([("let", (1, 1)), ("let", (1, 1)), None], 1, "pair"),
                ((("let", (1, 1)), ("ring", RING, 1), ("shut", (0, 0))), 2, "premise"),
                ([("let", (1, 1)), ("ring", RING, 1), ("strike", 0), ("strike", 0)], 3, "place"),
                ([("let", (1, 1))] + [("ring", RING, 1)] * 11, 11, "full"), ([None], 0, "kind")):
            self.refused(BadEdit, {"index": index, "what": what}, apply_edits, book, edits)

    def test_twenty_and_one_more(self):
        edits = [("let", (1, 1)), ("shut", (1, 1))] * 10
        self.assertTrue(apply_edits(Book(TREE, ()), edits) == Book(TREE, ()))
        for thing in NO_SEQUENCES + (edits + edits[:1], (None,) * 21):
            self.refused(BadEdit, {"index": -1, "what": "many"}, apply_edits, Book(TREE, ()), thing)

    def test_pictures_of_all_sizes(self):
        # All pairs of the greatest picture are let, and some are shut.
        book = Book(Picture(5, 5, ()), [((), 1)])
        pairs = full_picture(5, 5).pairs
        for pair in pairs:
            book = apply_edit(book, ("let", pair))
        self.assertTrue(book == Book(full_picture(5, 5), [((0,) * 25, 1)]))
        self.assertTrue(apply_edits(book, [("shut", pair) for pair in pairs[:20]]).picture
                        == Picture(5, 5, pairs[20:]))


if __name__ == "__main__":
    unittest.main()
