"""The texts of books: the row of the picture, then one row for each premise."""

from sheetproofs.books import MOST_PREMISES, Book
from sheetproofs.errors import BadText
from sheetproofs.picturetexts import picture_of_text, picture_text, saying_of_text, saying_text


def book_text(book):
    """Write a book as its picture and its premises, one row each."""
    rows = [saying_text(book.picture, saying) for saying in book.premises]
    return "\n".join([picture_text(book.picture)] + rows)


def _saying_of_row(picture, text, row):
    """Read the premise that stands in a row of a book's text."""
    if row > MOST_PREMISES:
        raise BadText(row)
    try:
        return saying_of_text(picture, text)
    except BadText:
        raise BadText(row)


def book_of_text(text):
    """Read the text of a book."""
    if not isinstance(text, str):
        raise BadText(0)
    rows = text.split("\n")
    picture = picture_of_text(rows[0])
    return Book(picture, [_saying_of_row(picture, rows[row], row) for row in range(1, len(rows))])
