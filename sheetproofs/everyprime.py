"""What follows from a book in the tables modulo one prime, and modulo every odd prime at once."""

from sheetproofs.bases import other_places
from sheetproofs.books import (book_rows, lifted_row, numbers_fault, part_with, premise_sum,
                               unlike_word)
from sheetproofs.errors import BadMost, BadPrime, BadTable, BadWord, TwoAlone
from sheetproofs.fields import MOST_PRIME, RestField, is_prime, source_of
from sheetproofs.folds import is_folded, turned_couples
from sheetproofs.numbers import common_divisor, common_multiple, is_whole
from sheetproofs.readings import Reading, reading_modulo
from sheetproofs.sayings import check_saying, is_saying, minus_saying, saying_sum, saying_times
from sheetproofs.tables import check_table, first_broken, holds_in, table_of
from sheetproofs.turnings import elementary_rows

WORDS = ("none", "follows", "refuted")


class Refutal:
    """A table modulo a prime that keeps the premises and not the saying."""

    def __init__(self, prime, table):
        self.prime = prime
        self.table = table

    def __eq__(self, other):
        return (isinstance(other, Refutal) and self.prime == other.prime
                and self.table == other.table)


class NoTable:
    """The part and the numbers that make the minus saying, so that no table keeps the premises."""

    def __init__(self, part, numbers):
        self.part = part
        self.numbers = numbers

    def __eq__(self, other):
        return (isinstance(other, NoTable) and self.part == other.part
                and self.numbers == other.numbers)


class Folded:
    """The part and the numbers that make the saying, so that it follows."""

    def __init__(self, part, numbers):
        self.part = part
        self.numbers = numbers

    def __eq__(self, other):
        return (isinstance(other, Folded) and self.part == other.part
                and self.numbers == other.numbers)


class PrimeRule:
    """What follows modulo every odd prime, told by the divisors of a period and by a span."""

    def __init__(self, period, words, span):
        self.period = period
        self.words = words
        self.span = span

    def __eq__(self, other):
        return (isinstance(other, PrimeRule) and self.period == other.period
                and self.words == other.words and self.span == other.span)


def _check_odd_prime(prime):
    """Raise BadPrime for anything but a prime, then TwoAlone for 2."""
    if not is_prime(prime):
        raise BadPrime()
    if prime == 2:
        raise TwoAlone()


def reading_against(book, saying, modulus):
    """Return a reading that reads 0 at the rows of the book and not at the two rows asked about.

    These are the rows of the minus saying and of the saying, and for each there is a reading.
    """
    rows = book_rows(book)
    minus = lifted_row(book.picture, minus_saying(book.picture))
    asked = lifted_row(book.picture, saying)
    keeping = reading_modulo(len(minus), rows, minus, modulus)
    telling = reading_modulo(len(asked), rows, asked, modulus)
    if keeping(asked) != 0:
        return keeping
    if telling(minus) != 0:
        return telling
    # Each of the two reads 0 where the other one does not, so their sum reads 0 at neither row.
    return Reading(modulus, [(number + added) % modulus
                             for number, added in zip(keeping.numbers, telling.numbers)])


def _table_of_reading(field, picture, reading):
    """Return the table whose worths of the basis tours have the steps that the reading tells."""
    source = source_of(field)
    steps = reading.numbers[:len(other_places(picture))]
    return table_of(field, picture, [field.power(source, number) for number in steps])


def follows_modulo(book, saying, prime):
    """Return NoTable, Folded or a Refutal for the tables modulo one odd prime."""
    asked = check_saying(book.picture, saying)
    _check_odd_prime(prime)
    found = part_with(book, minus_saying(book.picture), prime - 1)
    if found is not None:
        part, numbers = found
        return NoTable(part, numbers)
    found = part_with(book, asked, prime - 1)
    if found is not None:
        part, numbers = found
        return Folded(part, numbers)
    reading = reading_against(book, asked, prime - 1)
    return Refutal(prime, _table_of_reading(RestField(prime), book.picture, reading))


def fold_fault(book, saying, often, part, numbers):
    """Return None if the saying is so often the part plus the premises by the numbers, else a word."""
    picture = book.picture
    asked = check_saying(picture, saying)
    if not is_whole(often, 1):
        return "often"
    if not is_saying(picture, part):
        return "part"
    word = numbers_fault(book, numbers)
    if word is not None:
        return word
    total = saying_sum(picture, saying_times(picture, part, often), premise_sum(book, numbers))
    return unlike_word(total, asked)


def refutal_fault(book, saying, prime, table):
    """Return None if the table keeps the premises and not the saying, else the first word."""
    asked = check_saying(book.picture, saying)
    if not is_prime(prime) or prime == 2:
        return "prime"
    field = RestField(prime)
    try:
        kept = check_table(field, book.picture, table)
    except BadTable:
        return "table"
    if first_broken(field, book.picture, kept, book.premises) is not None:
        return "premise"
    return "kept" if holds_in(field, book.picture, kept, asked) else None


def _couples_of(book, saying):
    """Return the turned couples of the minus saying and of the saying, beside the book's rows."""
    rows = book_rows(book)
    turned = elementary_rows(len(rows[-1]), rows)
    minus = lifted_row(book.picture, minus_saying(book.picture))
    return turned_couples(turned, minus), turned_couples(turned, lifted_row(book.picture, saying))


def _word_for(minus, asked, times):
    """Return the word for an even number of times, by the couples of the two sayings."""
    if is_folded(minus, times):
        return "none"
    return "follows" if is_folded(asked, times) else "refuted"


def least_refuting_prime(book, saying):
    """Return the least odd prime modulo which there is a refutal, or None if none up to 20000 is."""
    minus, asked = _couples_of(book, saying)
    for number in range(3, MOST_PRIME + 1, 2):
        if is_prime(number) and _word_for(minus, asked, number - 1) == "refuted":
            return number
    return None


def prime_rule(book, saying):
    """Return the rule from which the answer modulo every odd prime can be read."""
    minus, asked = _couples_of(book, saying)
    period = 2
    span = 0
    for elementary, number in asked:
        if elementary == 0:
            span = common_divisor(span, number)
        else:
            period = common_multiple(period, elementary)
    words = [(divisor, _word_for(minus, asked, divisor))
             for divisor in range(2, period + 1, 2) if period % divisor == 0]
    return PrimeRule(period, tuple(words), span)


def word_at(rule, prime):
    """Return the answer of a rule for an odd prime."""
    _check_odd_prime(prime)
    asked = common_divisor(prime - 1, rule.period)
    found = [word for divisor, word in rule.words if divisor == asked]
    if found[0] == "follows" and rule.span % (prime - 1) != 0:
        return "refuted"
    return found[0]


def primes_of_word(rule, word, most):
    """Return all odd primes up to a bound for which the rule answers with this word."""
    if not isinstance(word, str) or word not in WORDS:
        raise BadWord()
    if not is_whole(most, 0, MOST_PRIME):
        raise BadMost()
    return tuple([number for number in range(3, most + 1, 2)
                  if is_prime(number) and word_at(rule, number) == word])
