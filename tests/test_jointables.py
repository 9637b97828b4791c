"""Tables of joined pictures put together [9.8, 9.1]."""

import unittest

from sheetproofs.errors import BadTable
from sheetproofs.fields import RestField
from sheetproofs.figures import Factors, same_figure
from sheetproofs.joining import Joining, shared_pairs, whole_picture
from sheetproofs.jointables import Joined, Parted, join_tables
from sheetproofs.pictures import Picture, full_picture
from sheetproofs.tables import scaled_table
from tests.helpers import Case, a_random, closing_tours, sums_of
from tests.joined import EXAMPLE, SQUARE, counterpart, is_on_shared, pairs_in_whole, some_joinings
from tests.linear import FIELDS, FRACTIONS, SEVEN, TWO
from tests.test_tables import GOOD, WRONG, a_table, worth

SAME = Joining(SQUARE, SQUARE, [(0, 0), (1, 1)], [(0, 0), (1, 1)])


class TestJoinTables(Case):
    def join(self, joining, field, first, second):
        """Check what is returned, and tell whether the tables are joined."""
        found = join_tables(joining, field, first, second)
        pairs, whole = pairs_in_whole(joining), whole_picture(joining)
        if isinstance(found, Joined):
            self.is_tuples((found.table, found.points, found.walls))
            numbers = dict(zip(whole.pairs, found.table))
            self.assertEqual(len(found.table), len(whole))
            self.assertEqual([numbers[pair] for pair in joining.one.pairs], list(first))
            scaled = scaled_table(field, joining.other, second, found.points, found.walls)
            self.assertEqual(tuple(numbers[pair] for pair in pairs), scaled)
            return True
        self.assertIsInstance(found, Parted)
        self.is_tuples((found.numbers, found.one_worth, found.other_worth))
        self.assertLessEqual(set(found.numbers), {-1, 0, 1})
        self.assertEqual(len(found.numbers), len(joining.one))
        self.assertFalse(any(sums_of(joining.one, found.numbers)[0] + sums_of(joining.one, found.numbers)[1]))
        self.assertTrue(is_on_shared(joining, (found.numbers, 0)))
        self.assertEqual(found.one_worth, worth(field, first, found.numbers))
        self.assertEqual(found.other_worth, worth(field, second, counterpart(joining, (found.numbers, 0))[0]))
        self.assertNotEqual(found.one_worth, found.other_worth)
        return False

    def test_small(self):
        found = join_tables(SAME, SEVEN, [2, 3, 4, 5], (1, 1, 1, 2))
        self.exactly(found.table, GOOD)
        self.assertTrue(self.join(SAME, SEVEN, GOOD, (1, 1, 1, 2)))
        found = join_tables(SAME, SEVEN, GOOD, [1, 1, 1, 3])
        self.exactly(found.numbers if found.numbers[0] == 1 else tuple(-n for n in found.numbers), (1, -1, -1, 1))
        self.assertFalse(self.join(SAME, SEVEN, GOOD, [1, 1, 1, 3]))
        # Nothing on the shared pairs of the example can part two tables.
        self.assertTrue(self.join(EXAMPLE, SEVEN, GOOD, [1, 1, 1, 3]))
        found = join_tables(EXAMPLE, SEVEN, GOOD, [1, 1, 1, 3])
        self.exactly((found.table[:2], found.table[3:5]), ((2, 3), (4, 5)))

    def test_no_open_pairs_and_no_shared_pairs(self):
        bare = Picture(2, 2, ())
        found = join_tables(Joining(bare, bare, [(0, 0)], [(1, 1)]), FRACTIONS, (), [])
        self.exactly(found.table, ())
        self.assertEqual((len(found.points), len(found.walls)), (2, 2))
        self.assertTrue(self.join(Joining(SQUARE, SQUARE, (), ()), SEVEN, GOOD, (6, 5, 4, 3)))
        self.assertTrue(self.join(Joining(bare, SQUARE, (), [(0, 1)]), SEVEN, (), GOOD))

    def test_parts_of_one_table_are_joined(self):
        chances = a_random(631)
        for joining in some_joinings(632):
            field = chances.choice(FIELDS)
            pairs, whole = pairs_in_whole(joining), whole_picture(joining)
            numbers = dict(zip(whole.pairs, a_table(field, chances, len(whole))))
            first = scaled_table(field, joining.one, [numbers[pair] for pair in joining.one.pairs],
                                 a_table(field, chances, joining.one.points),
                                 a_table(field, chances, joining.one.walls))
            second = scaled_table(field, joining.other, [numbers[pair] for pair in pairs],
                                  a_table(field, chances, joining.other.points),
                                  a_table(field, chances, joining.other.walls))
            self.assertTrue(self.join(joining, field, first, second))

    def test_any_tables(self):
        chances = a_random(633)
        seen = [0, 0]
        for joining in some_joinings(634, 200):
            for field in FIELDS[1:]:
                first = a_table(field, chances, len(joining.one))
                second = a_table(field, chances, len(joining.other))
                if chances.random() < 0.5:
                    first, second = [[chances.choice((field.one, field.one, field.minus_one)) for _ in table]
                                     for table in (first, second)]
                joined = self.join(joining, field, first, second)
                # They are parted exactly if a ring of shared pairs has unlike worths.
                shared = Picture(joining.one.points, joining.one.walls, shared_pairs(joining))
                unlike = 0
                for tour in closing_tours(shared).values():
                    led = dict(zip(shared.pairs, tour))
                    tour = tuple(led.get(pair, 0) for pair in joining.one.pairs)
                    other = counterpart(joining, (tour, 0))[0]
                    unlike += worth(field, first, tour) != worth(field, second, other)
                self.assertIs(joined, unlike == 0)
                seen[joined] += 1
        self.assertGreater(min(seen), 20)

    def test_all_shared(self):
        chances = a_random(635)
        five = full_picture(5, 5)
        joining = Joining(five, five, [(k, k) for k in range(5)], [(k, k) for k in range(5)])
        for field in FIELDS:
            first = a_table(field, chances, 25)
            second = scaled_table(field, five, first, a_table(field, chances, 5), a_table(field, chances, 5))
            self.assertTrue(self.join(joining, field, first, second))
            found = join_tables(joining, field, first, second)
            self.exactly(found.table, first)
            self.assertIsInstance(same_figure(field, five, first, second), Factors)
            if field != TWO:
                second = list(second)
                second[24] = field.times(second[24], field.minus_one)
                self.assertFalse(self.join(joining, field, first, second))

    def test_errors_in_their_order(self):
        joining = Joining(SQUARE, full_picture(2, 3), [(0, 0)], [(0, 0)])
        for table, index in WRONG:
            self.refused(BadTable, {"index": index}, join_tables, joining, SEVEN, table, None)
            self.refused(BadTable, {"index": index}, join_tables, SAME, SEVEN, GOOD, table)
        self.refused(BadTable, {"index": -1}, join_tables, joining, SEVEN, GOOD, GOOD)
        self.refused(BadTable, {"index": 3}, join_tables, joining, RestField(5), GOOD, (1,) * 6)
        self.refused(BadTable, {"index": 5}, join_tables, joining, SEVEN, GOOD, (1,) * 5 + (7,))

    def test_nothing_passed_in_is_changed(self):
        first, second = list(GOOD), [1, 1, 1, 2]
        join_tables(SAME, SEVEN, first, second)
        self.assertEqual((first, second), ([2, 3, 4, 5], [1, 1, 1, 2]))

    def test_results(self):
        self.check_result(Joined, "table points walls")
        self.check_result(Parted, "numbers one_worth other_worth")
        self.assertFalse(Joined(1, 2, 3) == Parted(1, 2, 3))
        self.assertFalse(Parted(1, 2, 3) == Joined(1, 2, 3))


if __name__ == "__main__":
    unittest.main()
