"""Joined pictures, the whole picture, and sayings carried over [9.2 to 9.4]."""

import unittest

from sheetproofs.books import Book
from sheetproofs.errors import BadJoin, BadSaying, OtherPicture, TooMany
from sheetproofs.joining import (Joining, back_to_first, back_to_second, first_saying, second_saying,
                                 shared_pairs, whole_book, whole_picture)
from sheetproofs.pictures import Picture, full_picture
from sheetproofs.tours import check_tour
from tests.helpers import NO_SEQUENCES, NO_WHOLES, Case, a_random, some_tours
from tests.joined import EXAMPLE, SQUARE, a_book, pairs_in_whole, some_joinings

R = (1, -1, -1, 1)
WIDE = full_picture(2, 3)
FIVE = full_picture(5, 5)
ALL = [(k, k) for k in range(5)]


class TestJoining(Case):
    def refuses(self, what, *args):
        self.refused(BadJoin, {"what": what}, Joining, *args)

    def test_attributes(self):
        points, walls = [[1, 0], (0, 1)], ([2, 1], (0, 2))
        joining = Joining(WIDE, WIDE, points, walls)
        self.exactly((joining.points, joining.walls), (((0, 1), (1, 0)), ((0, 2), (2, 1))))
        self.assertTrue(joining.one == WIDE)
        self.assertTrue(joining.other == WIDE)
        points[0][0] = 0
        walls[0][0] = 0
        self.exactly((joining.points, joining.walls), (((0, 1), (1, 0)), ((0, 2), (2, 1))))

    def test_couples(self):
        one, other = full_picture(2, 3), full_picture(3, 2)
        for thing in NO_SEQUENCES + ([()], [(0,)], [(0, 0, 0)], [None], [(2, 0)], [(0, 3)], [(-1, 0)], [(0, -1)],
                                     [(0, 0), (0, 1)], [(0, 0), (1, 0)], [(0, 0), (0, 0)], [(0, 0), "01"]):
            self.refuses("points", one, other, thing, None)
        for thing in NO_SEQUENCES + ([()], [(0,)], [(0, 0, 0)], [None], [(3, 0)], [(0, 2)], [(-1, 0)], [(0, -1)],
                                     [(0, 0), (0, 1)], [(0, 0), (1, 0)], [(0, 0), (0, 0)], [(0, 0), "01"]):
            self.refuses("walls", one, other, [(0, 0)], thing)
        # What is wrong with the walls comes before what is too many.
        self.refuses("walls", FIVE, FIVE, [], [(0, 0), (0, 0)])
        for thing in NO_WHOLES:
            self.refuses("points", one, other, [(0, thing)], ())
            self.refuses("points", one, other, [(thing, 0)], ())
            self.refuses("walls", one, other, (), [[1, thing]])
            self.refuses("walls", one, other, (), [(0, 0), (thing, 1)])

    def test_five_and_one_more(self):
        for points, walls in ((3, 1), (1, 3), (3, 3)):
            one, other = full_picture(points, walls), full_picture(3, 3)
            due = [(k, k) for k in range(max(0, points - 2))], [(k, k) for k in range(max(0, walls - 2))]
            whole = whole_picture(Joining(one, other, *due))
            self.exactly((whole.points, whole.walls), (min(5, points + 3), min(5, walls + 3)))
            if due[0]:
                self.refuses("many", one, other, due[0][1:], due[1])
            if due[1]:
                self.refuses("many", one, other, due[0], due[1][1:])
        self.refuses("many", FIVE, FIVE, ALL[:4], ALL)
        self.refuses("many", FIVE, FIVE, ALL, ALL[1:])
        self.refuses("many", FIVE, Picture(1, 1, ()), (), [(0, 0)])
        self.refuses("many", Picture(1, 1, ()), FIVE, [(0, 0)], ())
        self.assertTrue(whole_picture(Joining(FIVE, FIVE, ALL, ALL)) == FIVE)

    def test_equality(self):
        joining = Joining(WIDE, SQUARE, [(0, 1), (1, 0)], [(2, 1)])
        self.assertTrue(joining == Joining(full_picture(2, 3), full_picture(2, 2), ([1, 0], (0, 1)), [[2, 1]]))
        for other in (Joining(Picture(2, 3, ()), SQUARE, [(0, 1), (1, 0)], [(2, 1)]),
                      Joining(WIDE, SQUARE, [(0, 1)], [(2, 1)]),
                      Joining(WIDE, WIDE, [(0, 1), (1, 0)], [(2, 1)]), Joining(WIDE, SQUARE, [(0, 1), (1, 0)], []),
                      Joining(WIDE, SQUARE, [(0, 0), (1, 1)], [(2, 1)]), None, (WIDE, SQUARE), object()):
            self.assertFalse(joining == other)
            self.assertTrue(joining != other)


class TestWholePicture(Case):
    def test_example(self):
        self.assertTrue(whole_picture(EXAMPLE) == full_picture(2, 3))
        self.exactly(shared_pairs(EXAMPLE), ((0, 0), (1, 0)))

    def test_small(self):
        one, other = Picture(3, 2, [(0, 0), (1, 1), (2, 0)]), Picture(2, 2, [(0, 0), (0, 1), (1, 1)])
        joining = Joining(one, other, [(2, 0)], [(1, 1), (0, 0)])
        # Point 0 of the second picture is point 2, and its point 1 is point 3.
        self.assertTrue(whole_picture(joining) == Picture(4, 2, [(0, 0), (1, 1), (2, 0), (2, 1), (3, 1)]))
        self.exactly(shared_pairs(joining), ((2, 0),))
        apart = Joining(one, other, (), [(0, 1)])
        self.assertTrue(whole_picture(apart) == Picture(5, 3, [(0, 0), (1, 1), (2, 0), (3, 0), (3, 2), (4, 0)]))
        self.exactly(shared_pairs(apart), ())

    def test_any_joining(self):
        seen = [0, 0, 0]
        for joining in some_joinings(601):
            pairs = pairs_in_whole(joining)
            whole = whole_picture(joining)
            self.assertIsInstance(whole, Picture)
            self.exactly(whole.pairs, tuple(sorted(set(joining.one.pairs) | set(pairs))))
            self.exactly(whole.points, joining.one.points + joining.other.points - len(joining.points))
            self.exactly(whole.walls, joining.one.walls + joining.other.walls - len(joining.walls))
            shared = shared_pairs(joining)
            self.exactly(shared, tuple(sorted(set(joining.one.pairs) & set(pairs))))
            seen[0 if not shared else 1 if len(shared) < len(joining.one) else 2] += 1
        self.assertGreater(min(seen), 3)


class TestSayings(Case):
    def test_example(self):
        self.exactly(first_saying(EXAMPLE, [list(R), 1]), ((1, -1, 0, -1, 1, 0), 1))
        self.exactly(second_saying(EXAMPLE, [list(R), 0]), ((1, 0, -1, -1, 0, 1), 0))
        whole = ((0, 2, -2, 0, -2, 2), 1)
        self.assertIsNone(back_to_first(EXAMPLE, whole))
        self.assertIsNone(back_to_second(EXAMPLE, whole))
        self.exactly(back_to_first(EXAMPLE, [[3, -3, 0, -3, 3, 0], 1]), ((3, -3, -3, 3), 1))
        self.exactly(back_to_second(EXAMPLE, ([3, 0, -3, -3, 0, 3], 0)), ((3, -3, -3, 3), 0))

    def test_a_pair_open_in_the_second_picture_alone(self):
        one = Picture(2, 2, [(0, 0), (0, 1), (1, 0)])
        joining = Joining(one, SQUARE, [(0, 0), (1, 1)], [(0, 0), (1, 1)])
        self.exactly(second_saying(joining, (R, 1)), (R, 1))
        self.assertIsNone(back_to_first(joining, (R, 1)))
        self.exactly(back_to_second(joining, (R, 1)), (R, 1))
        self.exactly(back_to_first(joining, ((0, 0, 0, 0), 1)), ((0, 0, 0), 1))

    def test_any_joining(self):
        chances = a_random(602)
        none = [0, 0]
        for joining in some_joinings(603):
            whole, pairs = whole_picture(joining), pairs_in_whole(joining)
            for tour in some_tours(joining.one, chances, 2, 10 ** chances.choice((0, 200))):
                numbers = dict(zip(joining.one.pairs, tour))
                found = first_saying(joining, (tour, 1))
                self.exactly(found, (tuple(numbers.get(pair, 0) for pair in whole.pairs), 1))
                self.exactly(check_tour(whole, found[0]), found[0])
                self.exactly(back_to_first(joining, found), (tour, 1))
            for tour in some_tours(joining.other, chances, 2):
                numbers = dict(zip(pairs, tour))
                found = second_saying(joining, (tour, 0))
                self.exactly(found, (tuple(numbers.get(pair, 0) for pair in whole.pairs), 0))
                self.exactly(check_tour(whole, found[0]), found[0])
                self.exactly(back_to_second(joining, found), (tour, 0))
            for tour in some_tours(whole, chances, 2, 1):
                numbers = dict(zip(whole.pairs, tour))
                for at, (back, told) in enumerate(((back_to_first, joining.one.pairs), (back_to_second, pairs))):
                    found = back(joining, (tour, 1))
                    if any(number and pair not in told for pair, number in numbers.items()):
                        self.assertIsNone(found)
                        none[at] += 1
                    else:
                        self.exactly(found, (tuple(numbers[pair] for pair in told), 1))
        self.assertGreater(min(none), 10)

    def test_errors(self):
        wrong = ((None, "couple"), ((R,), "couple"), (((1, 0, 0, 0), 0), "tour"), (((0,) * 5, 0), "tour"),
                 ((R, True), "sign"), ((R, 2), "sign"), ((None, None), "tour"))
        for saying, what in wrong:
            for function in (first_saying, second_saying):
                self.refused(BadSaying, {"what": what}, function, EXAMPLE, saying)
        for saying, what in (((R, 0), "tour"), (((0,) * 6, None), "sign"), ([(0,) * 6], "couple")):
            for function in (back_to_first, back_to_second):
                self.refused(BadSaying, {"what": what}, function, EXAMPLE, saying)


class TestWholeBook(Case):
    def test_example(self):
        one, other = Book(SQUARE, [(R, 1), ((0,) * 4, 1)]), Book(SQUARE, [(R, 0)])
        found = whole_book(EXAMPLE, one, other)
        self.assertTrue(found.picture == full_picture(2, 3))
        self.exactly(found.premises, (((1, -1, 0, -1, 1, 0), 1), ((0,) * 6, 1), ((1, 0, -1, -1, 0, 1), 0)))

    def test_any_joining(self):
        chances = a_random(604)
        for joining in some_joinings(605):
            one, other = a_book(chances, joining.one), a_book(chances, joining.other)
            found = whole_book(joining, one, other)
            self.assertIsInstance(found, Book)
            self.assertTrue(found.picture == whole_picture(joining))
            self.exactly(found.premises, tuple(first_saying(joining, saying) for saying in one)
                         + tuple(second_saying(joining, saying) for saying in other))

    def test_errors_in_their_order(self):
        good, wide = Book(SQUARE, [(R, 0)] * 6), Book(WIDE, [((0,) * 6, 0)] * 6)
        joining = Joining(SQUARE, WIDE, [(0, 0)], [(1, 0)])
        self.refused(OtherPicture, {}, whole_book, joining, good, good)
        self.refused(OtherPicture, {}, whole_book, joining, wide, wide)
        self.refused(OtherPicture, {}, whole_book, joining, wide, good)
        self.refused(TooMany, {"most": 10}, whole_book, joining, good, wide)
        self.assertEqual(len(whole_book(joining, Book(SQUARE, good.premises[:4]), wide)), 10)
        self.assertEqual(len(whole_book(joining, Book(SQUARE, ()), Book(WIDE, ()))), 0)
        self.refused(TooMany, {"most": 10}, whole_book, joining, good, wide.without_premise(0))
        self.assertEqual(len(whole_book(joining, Book(SQUARE, [(R, 0)] * 10), Book(WIDE, ()))), 10)


if __name__ == "__main__":
    unittest.main()
