"""What one book tells about another picture, by the shared pairs alone [9.5 to 9.7, 9.1]."""

import unittest
from itertools import product

from sheetproofs.across import Bridge, bridge_fault, bridge_of, forget_pairs, passed_on, told_across
from sheetproofs.books import Book, derivation_of, lifted_row, lowered_row
from sheetproofs.errors import BadSaying, NotOpen, OtherPicture
from sheetproofs.joining import Joining, first_saying, whole_book
from sheetproofs.pictures import Picture, full_picture
from tests.bookshelf import R, SQUARE, added_up, row_at, square_book, times
from tests.helpers import NO_SEQUENCES, NO_WHOLES, Case, a_random, in_good_time, some_tours
from tests.joined import EXAMPLE, a_book, counterpart, is_on_shared, some_joinings
from tests.lattices import in_form, is_form
from tests.test_sayings import WRONG as WRONG_SAYINGS

WIDE = full_picture(2, 3)
# The two squares are joined at both points and both walls.
SAME = Joining(SQUARE, SQUARE, [(0, 0), (1, 1)], [(0, 0), (1, 1)])
# The second square is turned: its walls stand the other way round.
TURNED = Joining(SQUARE, SQUARE, [(0, 0), (1, 1)], [(0, 1), (1, 0)])


def row_of_saying(picture, saying):
    """Return the lifted row of a saying."""
    return row_at(picture, saying[0]) + (saying[1],)


def sums_of_premises(book, bound):
    """Return all sums of the premises by numbers up to the bound."""
    return [added_up(book.picture, book.premises, numbers)
            for numbers in product(range(-bound, bound + 1), repeat=len(book))]


class AcrossCase(Case):
    def check_form(self, form, width):
        """Check that rows are a form in which twice a sign is nothing."""
        self.is_tuples(form)
        self.assertTrue(is_form(form))
        self.assertEqual({len(row) for row in form}, {width})
        self.assertTrue(in_form(form, (0,) * (width - 1) + (2,)))


class TestPassedOn(AcrossCase):
    def test_example(self):
        for premises, row in (((), (0, 2)), (((1, 0),), (0, 2)), (((2, 1), (4, 0)), (0, 2)),
                              (((0, 1),), (0, 1)), (((2, 1), (1, 0)), (0, 1))):
            self.exactly(passed_on(EXAMPLE, square_book(*premises)), (row,))

    def test_all_shared(self):
        self.exactly(passed_on(SAME, square_book((3, 1))), ((3, 1), (0, 2)))
        self.exactly(passed_on(SAME, square_book((4, 0), (6, 1))), ((2, 1), (0, 2)))
        self.exactly(passed_on(TURNED, square_book((3, 1))), ((3, 1), (0, 2)))
        self.exactly(passed_on(SAME, square_book((0, 0))), ((0, 2),))

    def test_nothing_shared(self):
        apart = Joining(SQUARE, SQUARE, (), ())
        self.exactly(passed_on(apart, square_book((1, 0))), ((0, 2),))
        self.exactly(passed_on(apart, square_book((0, 1))), ((0, 1),))
        bare = Picture(2, 2, ())
        joining = Joining(bare, bare, [(0, 0)], [(0, 0)])
        self.exactly(passed_on(joining, Book(bare, ())), ((2,),))
        self.exactly(passed_on(joining, Book(bare, [((), 1)])), ((1,),))

    def test_any_books(self):
        chances = a_random(611)
        seen = 0
        for joining in some_joinings(612):
            for _ in range(3):
                other_book = a_book(chances, joining.other)
                found = passed_on(joining, other_book)
                self.check_form(found, len(row_at(joining.one, (0,) * len(joining.one))) + 1)
                for row in found:
                    saying = lowered_row(joining.one, row)
                    self.assertTrue(is_on_shared(joining, saying))
                    self.assertIsNotNone(derivation_of(other_book, counterpart(joining, saying)))
                # What small sums of the premises tell of shared pairs is among it.
                back = Joining(joining.other, joining.one, [(b, a) for a, b in joining.points],
                               [(b, a) for a, b in joining.walls])
                for told in sums_of_premises(other_book, 3):
                    if is_on_shared(back, told):
                        saying = counterpart(back, told)
                        self.assertTrue(in_form(found, row_of_saying(joining.one, saying)))
                        seen += any(told[0])
        self.assertGreater(seen, 100)

    def test_other_picture(self):
        joining = Joining(SQUARE, WIDE, [(0, 0)], [(0, 0)])
        self.refused(OtherPicture, {}, passed_on, joining, square_book())


class TestToldAcross(AcrossCase):
    def test_small(self):
        self.exactly(told_across(EXAMPLE, square_book((3, 1)), square_book((1, 0))), ((3, 1), (0, 2)))
        self.exactly(told_across(EXAMPLE, square_book((3, 1)), square_book((0, 1))), ((3, 0), (0, 1)))
        self.exactly(told_across(SAME, square_book((4, 0)), square_book((6, 1))), ((2, 1), (0, 2)))
        self.exactly(told_across(TURNED, square_book((4, 0)), square_book((6, 1))), ((2, 1), (0, 2)))
        self.exactly(told_across(SAME, square_book(), square_book()), ((0, 2),))

    def test_against_the_whole_book(self):
        chances = a_random(613)
        more = 0
        for joining in some_joinings(614):
            for _ in range(3):
                one_book, other_book = a_book(chances, joining.one, 2), a_book(chances, joining.other)
                found = told_across(joining, one_book, other_book)
                self.check_form(found, len(row_at(joining.one, (0,) * len(joining.one))) + 1)
                whole = whole_book(joining, one_book, other_book)
                for row in found:
                    saying = first_saying(joining, lowered_row(joining.one, row))
                    self.assertIsNotNone(derivation_of(whole, saying))
                # And every small sum of all premises that is of the first picture is told.
                places = [whole.picture.pairs.index(pair) for pair in joining.one.pairs]
                for tour, sign in sums_of_premises(whole, 1 if len(whole) > 3 else 2):
                    if not any(n for place, n in enumerate(tour) if place not in places):
                        row = row_of_saying(joining.one, (tuple(tour[place] for place in places), sign))
                        self.assertTrue(in_form(found, row))
                        more += not in_form(one_book.lot, row)
                # The whole book, without the other pairs, tells the same.
                left = [pair for pair in whole.picture.pairs if pair not in joining.one.pairs]
                told = [lowered_row(whole.picture, row) for row in forget_pairs(whole, left)]
                for tour, sign in told:
                    self.assertTrue(in_form(found, row_at(joining.one, [tour[k] for k in places]) + (sign,)))
        self.assertGreater(more, 50)

    def test_only_what_is_passed_on_counts(self):
        chances = a_random(615)
        for joining in some_joinings(616, 25):
            one_book, other_book = a_book(chances, joining.one), a_book(chances, joining.other)
            passed = [counterpart(joining, lowered_row(joining.one, row))
                      for row in passed_on(joining, other_book)]
            less = Book(joining.other, passed[:10])
            if len(passed) <= 10:
                self.exactly(passed_on(joining, less), passed_on(joining, other_book))
                self.exactly(told_across(joining, one_book, less), told_across(joining, one_book, other_book))

    def test_other_picture(self):
        joining = Joining(SQUARE, WIDE, [(0, 0)], [(0, 0)])
        wide = Book(WIDE, ())
        for one_book, other_book in ((wide, wide), (square_book(), square_book()), (wide, square_book())):
            for function in (told_across, bridge_of):
                args = (None,) if function is bridge_of else ()
                self.refused(OtherPicture, {}, function, joining, one_book, other_book, *args)
            self.refused(OtherPicture, {}, bridge_fault, joining, one_book, other_book, None, None)
        self.exactly(told_across(joining, square_book(), wide), ((0, 2),))


class TestForgetPairs(AcrossCase):
    def test_small(self):
        book = square_book((3, 1), (2, 0))
        self.exactly(forget_pairs(book, ()), book.lot)
        self.exactly(forget_pairs(book, [(1, 0)]), ((0, 2),))
        self.exactly(forget_pairs(square_book((0, 1)), ([1, 0],)), ((0, 1),))
        apart = Book(WIDE, [((1, -1, 0, -1, 1, 0), 1), ((0, 1, -1, 0, -1, 1), 0)])
        self.exactly(forget_pairs(apart, [(0, 1)]), ((0, 1, 1), (0, 0, 2)))
        self.exactly(forget_pairs(apart, [[1, 1], (0, 1), (1, 1), (0, 1)] * 30), ((0, 1, 1), (0, 0, 2)))

    def test_any_book(self):
        chances = a_random(617)
        seen = 0
        for joining in some_joinings(618):
            picture = joining.one
            book = a_book(chances, picture)
            pairs = [pair for pair in picture.pairs if chances.random() < 0.3]
            pairs = [chances.choice((list, tuple))(pair) for pair in pairs + pairs[:1]]
            chances.shuffle(pairs)
            found = forget_pairs(book, pairs)
            self.check_form(found, len(row_at(picture, (0,) * len(picture))) + 1)
            places = [picture.pairs.index(tuple(pair)) for pair in pairs]
            for row in found:
                saying = lowered_row(picture, row)
                self.assertFalse(any(saying[0][place] for place in places))
                self.assertIsNotNone(derivation_of(book, saying))
            for tour, sign in sums_of_premises(book, 3):
                if not any(tour[place] for place in places):
                    self.assertTrue(in_form(found, row_at(picture, tour) + (sign,)))
                    seen += any(tour)
        self.assertGreater(seen, 50)

    def test_not_open(self):
        book = Book(Picture(2, 2, [(0, 0), (1, 1)]), ())
        for thing in NO_SEQUENCES + ((0, 1), (2, 0), (0, True), (0,), (0, 0, 0), [1, 0]):
            error = self.refused(NotOpen, {}, forget_pairs, book, [(0, 0), thing, (1, 0)])
            self.assertIs(error.pair, thing)
        self.exactly(forget_pairs(book, [(0, 0), [1, 1]]), ((2,),))


class TestBridge(AcrossCase):
    def bridge(self, joining, one_book, other_book, saying):
        """Check what is returned, and tell whether it is a bridge."""
        found = bridge_of(joining, one_book, other_book, saying)
        told = told_across(joining, one_book, other_book)
        self.assertIs(found is not None, in_form(told, row_of_saying(joining.one, saying)))
        if found is None:
            return False
        self.assertIsInstance(found, Bridge)
        self.is_tuples((found.middle, found.first, found.second))
        self.assertEqual((len(found.first), len(found.second)), (len(one_book), len(other_book)))
        self.assertTrue(is_on_shared(joining, found.middle))
        self.assertEqual(added_up(joining.other, other_book.premises, found.second),
                         counterpart(joining, found.middle))
        self.assertEqual(added_up(joining.one, one_book.premises, found.first, found.middle, 1),
                         (tuple(saying[0]), saying[1]))
        self.assertIsNone(bridge_fault(joining, one_book, other_book, saying, found))
        return True

    def test_small(self):
        self.assertTrue(self.bridge(SAME, square_book((4, 0)), square_book((6, 1)), (times(2), 1)))
        self.assertFalse(self.bridge(SAME, square_book((4, 0)), square_book((6, 1)), (times(2), 0)))
        self.assertTrue(self.bridge(EXAMPLE, square_book((3, 1)), square_book((0, 1)), [list(times(3)), 0]))
        self.assertFalse(self.bridge(EXAMPLE, square_book((3, 1)), square_book((1, 0)), (R, 1)))
        self.assertTrue(self.bridge(EXAMPLE, square_book(), square_book(), (times(0), 0)))
        bare = Picture(2, 2, ())
        joining = Joining(bare, bare, [(0, 0)], [(0, 0)])
        self.assertTrue(self.bridge(joining, Book(bare, ()), Book(bare, [((), 1)]), ((), 1)))
        self.assertFalse(self.bridge(joining, Book(bare, ()), Book(bare, ()), ((), 1)))

    def test_any_books(self):
        chances = a_random(619)
        seen = [0, 0]
        for joining in some_joinings(620):
            for _ in range(4):
                one_book, other_book = a_book(chances, joining.one), a_book(chances, joining.other)
                told = told_across(joining, one_book, other_book)
                numbers = [chances.randint(-2, 2) for _ in told]
                row = [sum(n * known[at] for n, known in zip(numbers, told)) for at in range(len(told[0]))]
                saying = lowered_row(joining.one, row)
                self.assertTrue(self.bridge(joining, one_book, other_book, saying))
                saying = (some_tours(joining.one, chances, 1, 2)[0], chances.randint(0, 1))
                seen[self.bridge(joining, one_book, other_book, saying)] += 1
        self.assertGreater(min(seen), 10)

    @in_good_time
    def test_ten_premises_with_great_numbers(self):
        chances = a_random(621)
        five = full_picture(5, 5)
        walls = [(0, 4), (1, 3), (2, 2), (3, 1), (4, 0)]
        joining = Joining(five, five, [(k, k) for k in range(5)], walls)
        for bound in (2, 10 ** 9, 10 ** 100):
            one_book, other_book = [Book(five, [(tour, chances.randint(0, 1))
                                                for tour in some_tours(five, chances, 10, bound)]) for _ in range(2)]
            numbers = [chances.randint(-9, 9) for _ in range(10)]
            middle = counterpart(joining, added_up(five, other_book.premises, numbers))
            saying = added_up(five, one_book.premises, numbers[::-1], middle, 1)
            self.assertTrue(self.bridge(joining, one_book, other_book, saying))

    def test_errors(self):
        book = square_book((1, 0))
        for saying, what in WRONG_SAYINGS:
            self.refused(BadSaying, {"what": what}, bridge_of, EXAMPLE, book, book, saying)
            self.refused(BadSaying, {"what": what}, bridge_fault, EXAMPLE, book, book, saying, None)

    def test_result(self):
        self.check_result(Bridge, "middle first second")


class TestBridgeFault(AcrossCase):
    ONE, OTHER = square_book((4, 0), (0, 0)), square_book((6, 1), (0, 0))

    def fault(self, middle, first, second, saying=(times(2), 1), joining=SAME):
        return bridge_fault(joining, self.ONE, self.OTHER, saying, Bridge(middle, first, second))

    def test_right(self):
        self.assertIsNone(self.fault((times(6), 1), (-1, 0), (1, 0)))
        self.assertIsNone(self.fault([list(times(6)), 1], [-1, 5], [1, -7]))
        self.assertIsNone(self.fault((times(-6), 1), (2, 10 ** 299), (-1, 0)))
        self.assertIsNone(self.fault((times(6), 1), (-1, 0), (-1, 0), joining=TURNED))

    def test_middle(self):
        for saying, _ in WRONG_SAYINGS:
            self.assertEqual(self.fault(saying, None, None), "middle")
        for middle in ((R, 1), (times(6), 1), (R, 0)):
            self.assertEqual(self.fault(middle, None, None, joining=EXAMPLE), "middle")
        self.assertEqual(self.fault((times(0), 0), (0, 0), (0, 0), (times(0), 0), EXAMPLE), None)

    def test_second(self):
        for thing in NO_SEQUENCES + ((), (1,), (1, 0, 0)):
            self.assertEqual(self.fault((times(6), 1), None, thing), "second")
        for thing in NO_WHOLES:
            self.assertEqual(self.fault((times(6), 1), None, (1, thing)), "second")
        self.assertEqual(self.fault((times(6), 1), (-1, 0), (2, 0)), "second")
        self.assertEqual(self.fault((times(6), 1), (-1, 0), (-1, 0)), "second")
        self.assertEqual(self.fault((times(6), 0), (-1, 0), (1, 0)), "second")
        self.assertEqual(self.fault((times(6), 1), (-1, 0), (1, 0), joining=TURNED), "second")

    def test_first(self):
        for thing in NO_SEQUENCES + ((), (-1,), (-1, 0, 0)):
            self.assertEqual(self.fault((times(6), 1), thing, (1, 0)), "first")
        for thing in NO_WHOLES:
            self.assertEqual(self.fault((times(6), 1), (-1, thing), (1, 0)), "first")
        self.assertEqual(self.fault((times(6), 1), (1, 0), (1, 0)), "first")
        self.assertEqual(self.fault((times(6), 1), (-1, 0), (1, 0), (times(2), 0)), "first")
        self.assertEqual(self.fault((times(12), 0), (-1, 0), (2, 0)), "first")


if __name__ == "__main__":
    unittest.main()
