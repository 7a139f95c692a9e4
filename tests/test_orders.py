"""Promises [95] and [96]: rearranged plans."""

import itertools
import math
import random
import unittest

from lastthrough.effects import compare_plans
from lastthrough.errors import InvalidPlan, ProblemTooLarge
from lastthrough.orders import count_rearrangements, normal_form
from lastthrough.states import play
from tests.helpers import (
    FORK5, ROW3, STAR4, ErrorCase, can_be_exchanged, large_plans, playable_plan, quick, random_plan, random_state,
    rearranged, rearrangements, row_house, star_house, swing_plan)

SMALL = ((((0, 1),), 1), (((0, 1),), 3), (ROW3, 2), (ROW3, 3), (STAR4, 3), (FORK5, 4), (row_house(6), 6))


def some_plans(rng):
    """Houses, numbers of people, and plans by chance, most of them contradictory, others to be played."""
    for house, people in SMALL:
        for length in (0, 1, 2, 3, 4, 5, 6, 7):
            for _ in range(4):
                yield house, people, random_plan(rng, house, people, length)
                yield house, people, playable_plan(rng, house, random_state(rng, house, people), length)[0]


def smallest_by_definition(plan):
    """The smallest rearrangement, each time with the smallest move that can come to the front."""
    left = list(plan)
    found = []
    while left:
        front = [at for at, move in enumerate(left)
                 if all(can_be_exchanged(move, earlier) for earlier in left[:at])]
        found.append(left.pop(min(front, key=lambda at: left[at])))
    return found


class TestNormalForm(ErrorCase):

    def test_row(self):
        self.assertEqual(
            normal_form(ROW3, 2, [(1, 2, 1), (0, 0, 1), (1, 1, 0)]), [(0, 0, 1), (1, 2, 1), (1, 1, 0)])

    def test_empty_plan(self):
        for house, people in (((), 1), ((), 3), (ROW3, 2)):
            self.assertEqual(normal_form(house, people, []), [])

    def test_one_person_or_one_door(self):
        alone = [(0, 1, 2), (0, 0, 1), (0, 2, 1), (0, 0, 1)]
        self.assertEqual(normal_form(ROW3, 1, alone), alone)
        one_door = [(2, 0, 1), (1, 0, 1), (0, 1, 0), (2, 0, 1)]
        self.assertEqual(normal_form(ROW3, 3, one_door), one_door)

    def test_all_moves_independent(self):
        plan = [(2, 3, 0), (0, 1, 0), (1, 2, 0)]
        for order in itertools.permutations(plan):
            self.assertEqual(normal_form(STAR4, 3, list(order)), [(0, 1, 0), (1, 2, 0), (2, 3, 0)])

    def test_smallest_move_that_can_come_to_the_front(self):
        # The move of person 0 must stay behind that of person 2, but the move of person 1 need not.
        plan = [(2, 0, 1), (0, 0, 1), (1, 2, 3)]
        self.assertEqual(normal_form(row_house(4), 3, plan), [(1, 2, 3), (2, 0, 1), (0, 0, 1)])
        self.assertEqual(normal_form(row_house(4), 3, [(1, 2, 3), (0, 0, 1), (2, 0, 1)]),
                         [(0, 0, 1), (1, 2, 3), (2, 0, 1)])

    def test_moves_by_the_same_person_keep_their_order(self):
        plan = [(1, 2, 3), (0, 1, 2), (0, 0, 1)]
        self.assertEqual(normal_form(row_house(4), 2, plan), [(0, 1, 2), (0, 0, 1), (1, 2, 3)])

    def test_moves_through_the_same_door_keep_their_order(self):
        self.assertEqual(normal_form(ROW3, 2, [(1, 1, 0), (0, 0, 1)]), [(1, 1, 0), (0, 0, 1)])
        self.assertEqual(normal_form(ROW3, 2, [(1, 0, 1), (0, 0, 1)]), [(1, 0, 1), (0, 0, 1)])

    def test_against_all_exchanges(self):
        for house, people, plan in some_plans(random.Random(193)):
            with self.subTest(house=house, people=people, plan=plan):
                self.assertEqual(normal_form(house, people, plan), rearrangements(plan)[0])

    def test_same_for_all_rearrangements(self):
        rng = random.Random(197)
        for house, people, plan in some_plans(rng):
            smallest = normal_form(house, people, plan)
            self.assertEqual(normal_form(house, people, smallest), smallest)
            self.assertEqual(normal_form(house, people, rearranged(rng, plan, 20)), smallest)
            self.assertEqual(compare_plans(house, people, plan, smallest), ("same",))

    def test_largest(self):
        rng = random.Random(199)
        for house, state, plan in large_plans():
            smallest = quick(normal_form, house, 6, plan)
            self.assertEqual(quick(normal_form, house, 6, rearranged(rng, plan, 20000)), smallest)
            self.assertEqual(play(house, state, smallest), play(house, state, plan))
            self.assertEqual(normal_form(house, 6, plan[:300]), smallest_by_definition(plan[:300]))
        swing = swing_plan(20000)
        self.assertEqual(quick(normal_form, row_house(30), 6, swing), swing)
        apart = [(1, 2, 3), (0, 0, 1)] * 10000
        self.assertEqual(quick(normal_form, row_house(30), 6, apart), [(0, 0, 1)] * 10000 + [(1, 2, 3)] * 10000)

    def test_errors_in_order(self):
        self.assert_plan_errors(normal_form)


class TestCountRearrangements(ErrorCase):

    def test_row(self):
        self.assertEqual(count_rearrangements(ROW3, 2, [(0, 0, 1), (1, 2, 1)]), 2)
        self.assertEqual(count_rearrangements(ROW3, 2, [(0, 0, 1), (1, 0, 1)]), 1)
        self.assertEqual(count_rearrangements(ROW3, 2, [(0, 0, 1), (0, 1, 2)]), 1)

    def test_empty_plan_and_one_move(self):
        self.assertEqual(count_rearrangements((), 1, []), 1)
        self.assertEqual(count_rearrangements(ROW3, 2, []), 1)
        self.assertEqual(count_rearrangements(ROW3, 1, [(0, 0, 1)]), 1)

    def test_equal_moves(self):
        self.assertEqual(count_rearrangements(ROW3, 2, [(0, 0, 1), (0, 0, 1)]), 1)
        self.assertEqual(count_rearrangements(ROW3, 2, [(0, 0, 1), (0, 0, 1), (1, 2, 1), (1, 2, 1)]), 6)

    def test_against_all_exchanges(self):
        counts = set()
        for house, people, plan in some_plans(random.Random(211)):
            with self.subTest(house=house, people=people, plan=plan):
                count = count_rearrangements(house, people, plan)
                self.assertEqual(count, len(rearrangements(plan)))
                self.assertIs(count.__class__, int)
                counts.add(count)
        self.assertGreater(len(counts), 20)

    def test_rearrangements_have_the_same_count(self):
        rng = random.Random(223)
        for house, _, plan in large_plans():
            for begin in (0, 500, 1000):
                part = plan[begin:begin + 16]
                count = quick(count_rearrangements, house, 6, part)
                self.assertEqual(count_rearrangements(house, 6, rearranged(rng, part, 100)), count)
                self.assertEqual(count_rearrangements(house, 6, normal_form(house, 6, part)), count)

    def test_16_moves(self):
        house = star_house(30)
        plan = [(index % 6, 0, index % 6 + 1) for index in range(16)]
        expected = math.factorial(16) // (6 ** 4 * 2 ** 2)
        self.assertEqual(quick(count_rearrangements, house, 6, plan), expected)
        plan = [(person, 0, person + 1) for person in range(16)]
        self.assertEqual(quick(count_rearrangements, house, 16, plan), math.factorial(16))
        self.assertEqual(count_rearrangements(house, 2, swing_plan(16)), 1)

    def test_17_moves(self):
        for length in (17, 18, 2000):
            fields = {"count": length}
            self.assert_error(ProblemTooLarge, fields, count_rearrangements, ROW3, 2, swing_plan(length))
            self.assert_error(ProblemTooLarge, fields, count_rearrangements, ROW3, 1, [(0, 0, 1)] * length)

    def test_errors_in_order(self):
        self.assert_plan_errors(count_rearrangements)
        plan = swing_plan(17) + [None]
        self.assert_error(InvalidPlan, {"reason": ("move", 17)}, count_rearrangements, ROW3, 2, plan)


if __name__ == "__main__":
    unittest.main()
