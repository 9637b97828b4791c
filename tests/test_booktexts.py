"""The texts of books [1.9, 1.10]."""

import unittest

from sheetproofs.books import Book
from sheetproofs.booktexts import book_of_text, book_text
from sheetproofs.errors import BadText
from sheetproofs.pictures import Picture
from tests.bookshelf import BARE, R, SQUARE, some_books, square_book, times
from tests.helpers import Case
from tests.test_picturetexts import NINES, NO_STRINGS

HEAD = "2 2: 00 01 10 11"
ROW = "1 -1 -1 1 = -1"


def text_of(*rows):
    """Return the text of a book on the square with these rows behind the first one."""
    return "\n".join((HEAD,) + rows)


class TestBookTexts(Case):
    def test_examples(self):
        book = Book(SQUARE, [(R, 1), (times(-2), 0)])
        text = "2 2: 00 01 10 11\n1 -1 -1 1 = -1\n-2 2 2 -2 = 1"
        self.assertEqual(book_text(book), text)
        self.assertTrue(book_of_text(text) == book)
        self.assertEqual(book_text(Book(SQUARE, ())), HEAD)
        self.assertTrue(book_of_text(HEAD) == Book(SQUARE, ()))
        self.assertEqual(book_text(Book(BARE, [((), 1), ((), 0)])), "3 1:\n= -1\n= 1")
        self.assertTrue(book_of_text("3 1:\n= -1\n= 1") == Book(BARE, [((), 1), ((), 0)]))
        self.assertTrue(book_of_text("3 1:") == Book(BARE, ()))

    def test_read_back(self):
        for book, _ in some_books(221):
            text = book_text(book)
            self.assertIs(text.__class__, str)
            self.assertEqual(text.count("\n"), len(book))
            found = book_of_text(text)
            self.assertIsInstance(found, Book)
            self.assertTrue(found == book)
            self.is_tuples(found.premises)

    def test_numbers_of_300_and_of_301_digits(self):
        great = 10 ** 300 - 1
        book = square_book((great, 0), (-great, 1))
        text = text_of(f"{NINES} -{NINES} -{NINES} {NINES} = 1", f"-{NINES} {NINES} {NINES} -{NINES} = -1")
        self.assertEqual(book_text(book), text)
        self.assertTrue(book_of_text(text) == book)
        self.refused(BadText, {"row": 2}, book_of_text, text_of(ROW, f"1{NINES} -1{NINES} -1{NINES} 1{NINES} = 1"))

    def test_ten_premises_and_an_eleventh(self):
        self.assertEqual(len(book_of_text(text_of(*[ROW] * 10))), 10)
        self.refused(BadText, {"row": 11}, book_of_text, text_of(*[ROW] * 11))
        self.refused(BadText, {"row": 11}, book_of_text, text_of(*[ROW] * 10 + ["x"]))
        self.refused(BadText, {"row": 11}, book_of_text, text_of(*[ROW] * 10 + [""]))
        self.refused(BadText, {"row": 11}, book_of_text, text_of(*[ROW] * 12 + ["x"]))
        self.refused(BadText, {"row": 10}, book_of_text, text_of(*[ROW] * 9 + ["x", ROW]))

    def test_the_first_wrong_row(self):
        for row in ("", " ", "x", HEAD, "1 -1 -1 1", "1 -1 -1 1 = 1 ", " 1 -1 -1 1 = 1", "1 -1 -1 1 = 0",
                    "1 -1 -1 = 1", "1 0 0 0 = 1", "1 -1 0 0 = 1", "-0 0 0 0 = 1", "01 -1 -1 1 = 1",
                    "1 -1 -1 1 = +1", "1  -1 -1 1 = 1", "= 1"):
            self.refused(BadText, {"row": 1}, book_of_text, text_of(row))
            self.refused(BadText, {"row": 1}, book_of_text, text_of(row, "x"))
            self.refused(BadText, {"row": 3}, book_of_text, text_of(ROW, ROW, row, "x"))

    def test_an_empty_last_row(self):
        self.refused(BadText, {"row": 1}, book_of_text, HEAD + "\n")
        self.refused(BadText, {"row": 2}, book_of_text, text_of(ROW) + "\n")
        self.refused(BadText, {"row": 1}, book_of_text, text_of(ROW) .replace("\n", "\n\n"))

    def test_a_wrong_picture(self):
        for head in ("", " ", "\n", "2 2", "2 2: 01 00", "2 2: 00 00", "2 2: 02", "6 2:", "0 2:", "02 2:",
                     "2 2: 0 0", "2 2:  00", "2 2: ", " 2 2:", "2 2 :", ROW):
            self.refused(BadText, {"row": 0}, book_of_text, head)
            self.refused(BadText, {"row": 0}, book_of_text, head + "\nx")

    def test_no_string(self):
        for thing in NO_STRINGS + [square_book((1, 0)), Picture(1, 1, ())]:
            self.refused(BadText, {"row": 0}, book_of_text, thing)


if __name__ == "__main__":
    unittest.main()
