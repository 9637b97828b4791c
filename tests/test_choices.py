"""The search for least good choices, on which least choices, least breaks and mends rest [10.2, 10.8]."""

import unittest
from itertools import combinations

from sheetproofs.choices import has_part, least_good_choices
from tests.helpers import Case, a_random


def least_by_trial(many, first, step, is_good):
    """Return the least good choices, found by judging all choices from the empty one on."""
    found = []
    for choice in [choice for size in range(many + 1) for choice in combinations(range(many), size)]:
        state = first
        for place in choice:
            state = None if state is None else step(state, place)
        if state is not None and is_good(state) and not any(set(least) <= set(choice) for least in found):
            found.append(choice)
    return tuple(found)


class TestChoices(Case):
    def test_parts(self):
        for choice, others, wanted in (((), [], False), ((), [()], True), ((1,), [()], True), ((), [(1,)], False),
                                       ((0, 2), [(1,), (2,)], True), ((0, 2), [(0, 1), (1, 2)], False),
                                       ((0, 1, 2), ((0, 2),), True), ((0, 2), ((0, 1, 2),), False)):
            self.assertIs(has_part(choice, others), wanted)

    def test_by_size_and_then_in_their_order(self):
        coins = (5, 1, 4, 2, 3, 1)
        found = least_good_choices(6, 0, lambda total, place: total + coins[place], lambda total: total == 5)
        self.exactly(found, ((0,), (1, 2), (2, 5), (3, 4), (1, 4, 5)))

    def test_first_state_is_good(self):
        self.exactly(least_good_choices(3, 0, lambda state, place: state, lambda state: True), ((),))
        self.exactly(least_good_choices(0, 0, lambda state, place: state, lambda state: True), ((),))
        self.exactly(least_good_choices(0, 0, lambda state, place: state, lambda state: False), ())
        self.exactly(least_good_choices(3, 0, lambda state, place: state, lambda state: False), ())

    def test_behind_no_state_nothing_is_good(self):
        found = least_good_choices(4, (), lambda state, place: None if place == 1 else state + (place,),
                                   lambda state: len(state) == 2)
        self.exactly(found, ((0, 2), (0, 3), (2, 3)))

    def test_any_step(self):
        chances = a_random(1401)
        counts = []
        for _ in range(300):
            many, size = chances.randint(0, 6), chances.randint(1, 9)
            moves = [[chances.choice([None] + list(range(size)) * 2) for _ in range(size)] for _ in range(many)]
            goals = [state for state in range(size) if chances.random() < 0.2]
            asked = (many, 0, lambda state, place: moves[place][state], lambda state: state in goals)
            found = least_good_choices(*asked)
            self.exactly(found, least_by_trial(*asked))
            counts.append(len(found))
        self.assertGreater(max(counts), 5)
        self.assertIn(0, counts)


if __name__ == "__main__":
    unittest.main()
