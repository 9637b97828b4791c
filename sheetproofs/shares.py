"""Prices of premises: the cheapest fractions and the cheapest whole numbers that make a saying."""

from sheetproofs.bases import other_places, row_of
from sheetproofs.books import lifted_row, tour_rows
from sheetproofs.errors import BadMost, BadPrices, BadTelling, TooMany
from sheetproofs.fields import FractionField, is_number, is_number_row
from sheetproofs.leads import columns_of, row_less
from sheetproofs.numbers import is_whole
from sheetproofs.pricing import cheapest_corner, is_less, size_of, weights_at
from sheetproofs.ranks import product_sum, weights_for
from sheetproofs.sayings import check_saying
from sheetproofs.sequences import wrong_index

MOST_PRICE = 20
MOST_PRICED = 5
MOST_TIMES = 3


class Shares:
    """A price, the fractions of the premises that cost it, and a telling that shows it is the least."""

    def __init__(self, price, parts, telling):
        self.price = price
        self.parts = parts
        self.telling = telling

    def __eq__(self, other):
        return (isinstance(other, Shares) and self.price == other.price
                and self.parts == other.parts and self.telling == other.telling)


class NoShares:
    """A telling that shows that no fractions of the premises make the tour."""

    def __init__(self, telling):
        self.telling = telling

    def __eq__(self, other):
        return isinstance(other, NoShares) and self.telling == other.telling


class Whole:
    """The least price of whole numbers, and the numbers."""

    def __init__(self, price, numbers):
        self.price = price
        self.numbers = numbers

    def __eq__(self, other):
        return isinstance(other, Whole) and self.price == other.price and self.numbers == other.numbers


def _fractions(field, wholes):
    """Return whole numbers as fractions."""
    return [field.number_of(whole) for whole in wholes]


def _tour_row(field, picture, tour):
    """Return the numbers of a tour at the other places as fractions."""
    return _fractions(field, row_of(picture, tour))


def _is_telling(field, picture, thing):
    """Tell whether the thing is a sequence of one fraction for each of the other places."""
    return is_number_row(field, thing, len(other_places(picture)))


def tell_of(picture, telling, tour):
    """Return the fraction that the telling tells of the tour."""
    field = FractionField()
    if not _is_telling(field, picture, telling):
        raise BadTelling()
    return product_sum(field, telling, _tour_row(field, picture, tour))


def _check_prices(book, prices):
    """Raise BadPrices for anything but a sequence of one price for each premise."""
    index = wrong_index(prices, len(book), lambda price: is_whole(price, 1, MOST_PRICE))
    if index is not None:
        raise BadPrices(index)


def _checked_rows(field, book, prices, saying):
    """Return the rows of the premises and of the saying, and the prices, all as fractions."""
    _check_prices(book, prices)
    tour, _ = check_saying(book.picture, saying)
    rows = [_fractions(field, row) for row in tour_rows(book)]
    return rows, _tour_row(field, book.picture, tour), _fractions(field, prices)


def _price_of(field, prices, parts):
    """Return the sum of each price times the size of its part."""
    return product_sum(field, prices, [size_of(part) for part in parts])


def _telling_with(field, rows, width, told):
    """Return a telling that tells these fractions of the rows of this width."""
    return weights_for(field, columns_of(width, rows), told)


def cheapest_shares(book, prices, saying):
    """Return the Shares of least price that make the tour of the saying, or NoShares."""
    field = FractionField()
    rows, asked, costs = _checked_rows(field, book, prices, saying)
    width = len(asked)
    corner = cheapest_corner(field, rows, asked, costs)
    if corner is None:
        return NoShares(_telling_with(field, rows + [asked], width, [field.zero] * len(rows) + [field.one]))
    parts = weights_at(field, corner, len(rows))
    equations, leads = corner
    # What is told of a premise with a part is its price, with the sign of the part.
    told = [field.times(equation[lead], costs[lead]) for equation, lead in zip(equations, leads)]
    telling = _telling_with(field, [rows[lead] for lead in leads], width, told)
    return Shares(_price_of(field, costs, parts), parts, telling)


def _tells(field, book, telling, asked, rows, due, costs):
    """Tell whether it is a telling that tells due of the asked row and at most its price of each row."""
    if not _is_telling(field, book.picture, telling) or product_sum(field, telling, asked) != due:
        return False
    return not any([is_less(cost, size_of(product_sum(field, telling, row))) for cost, row in zip(costs, rows)])


def shares_fault(book, prices, saying, found):
    """Return None for right Shares or NoShares, else the first word that applies."""
    field = FractionField()
    rows, asked, costs = _checked_rows(field, book, prices, saying)
    if isinstance(found, NoShares):
        nothing = [field.zero] * len(rows)
        return None if _tells(field, book, found.telling, asked, rows, field.one, nothing) else "telling"
    if not is_number_row(field, found.parts, len(rows)):
        return "parts"
    sums = [product_sum(field, found.parts, column) for column in columns_of(len(asked), rows)]
    if sums != asked:
        return "parts"
    price = _price_of(field, costs, found.parts)
    if not is_number(field, found.price) or found.price != price:
        return "price"
    return None if _tells(field, book, found.telling, asked, rows, price, costs) else "telling"


def _all_sums(row, premises, prices, most):
    """Return all rows of numbers up to most, ascending, each with its price and what it leaves of the row."""
    sums = [((), 0, row)]
    for premise, price in zip(premises, prices):
        sums = [(numbers + (number,), cost + price * abs(number), row_less(left, number, premise))
                for numbers, cost, left in sums for number in range(-most, most + 1)]
    return sums


def cheapest_whole(book, prices, saying, most):
    """Return the Whole of least price with numbers from -most to most, or None."""
    if len(book) > MOST_PRICED:
        raise TooMany(MOST_PRICED)
    _check_prices(book, prices)
    row = lifted_row(book.picture, saying)
    if not is_whole(most, 0, MOST_TIMES):
        raise BadMost()
    premises = [lifted_row(book.picture, premise) for premise in book.premises]
    best = None
    for numbers, cost, left in _all_sums(row, premises, prices, most):
        if (best is None or cost < best.price) and left[-1] % 2 == 0 and not any(left[:-1]):
            best = Whole(cost, numbers)
    return best
