"""Promise [78]: shortest plans."""

import random
import unittest

from lastthrough.errors import InvalidHouse, InvalidState, ProblemTooLarge
from lastthrough.pairs import pair_distance, state_of_bits
from lastthrough.reach import check_reach, find_plan
from lastthrough.search import shortest_plan
from lastthrough.states import check_plan, play
from tests.helpers import (
    FORK5, ROW3, STAR4, ErrorCase, all_states, comb_house, path_by_definition, quick, random_house, random_state,
    row_house, sample_houses, search, star_house)

SMALL = (((), 1), ((), 4), (((1, 0),), 1), (((1, 0),), 3), (ROW3, 1), (ROW3, 2), (ROW3, 3), (STAR4, 2),
         (((3, 1), (0, 2), (1, 2)), 2))

# Houses and numbers of people with the count of the document.
JUST_RIGHT = (
    (row_house(20000), 1, 20000), (row_house(141), 2, 19881), (row_house(5), 3, 10125), (STAR4, 4, 16384),
    (ROW3, 5, 6075), (((0, 1),), 10, 10240), ((), 6, 1), ((), 1000, 1))
TOO_LARGE = (
    (row_house(20001), 1, 20001), (row_house(142), 2, 20164), (star_house(6), 3, 52488), (FORK5, 4, 160000),
    (ROW3, 6, 26244), (((0, 1),), 11, 22528), (star_house(30), 6, 30 ** 6 * 6 ** 29))


class TestShortestPlan(ErrorCase):

    def assert_leads(self, house, start, target, plan, number):
        self.assertIsInstance(plan, list)
        self.assertIsNone(check_plan(house, len(start[0]), plan))
        self.assertEqual(len(plan), number)
        self.assertEqual(play(house, start, plan), target)

    def test_one_door(self):
        house = ((0, 1),)
        self.assertEqual(shortest_plan(house, ((0, 0), (0,)), ((1, 1), (0,))), [(1, 0, 1), (0, 0, 1)])
        self.assertEqual(shortest_plan(house, ((0, 1), (1,)), ((1, 1), (0,))), [(0, 0, 1)])
        self.assertIsNone(shortest_plan(house, ((0, 0), (0,)), ((1, 1), (1,))))
        self.assertIsNone(shortest_plan(house, ((0, 0), (0,)), ((1, 0), (0,))))

    def test_a_third_person_helps(self):
        house = ((0, 1),)
        self.assertIsNone(shortest_plan(house, ((0, 0), (0,)), ((0, 0), (1,))))
        plan = shortest_plan(house, ((0, 0, 0), (0,)), ((0, 0, 0), (1,)))
        self.assert_leads(house, ((0, 0, 0), (0,)), ((0, 0, 0), (1,)), plan, 4)

    def test_target_that_is_the_start(self):
        rng = random.Random(101)
        for house in sample_houses():
            for people in (1, 2):
                state = random_state(rng, house, people)
                self.assertEqual(shortest_plan(house, state, state), [])
        self.assertEqual(shortest_plan(STAR4, ((1, 2, 3), (0, 1, 2)), ((1, 2, 3), (0, 1, 2))), [])

    def test_target_that_cannot_come_about(self):
        self.assertIsNone(shortest_plan(ROW3, ((0,), (0, 0)), ((1,), (0, 0))))
        self.assertIsNone(shortest_plan(ROW3, ((0, 2), (0, 1)), ((1, 1), (0, 1))))
        self.assertIsNone(shortest_plan(STAR4, ((1, 2, 3), (0, 1, 2)), ((1, 2, 0), (0, 1, 2))))

    def test_against_search(self):
        for house, people in SMALL:
            states = all_states(house, people)
            step = 1 + len(states) // 60
            for start in states[::step]:
                moves = search(house, start)
                for target in states[::step // 2 + 1]:
                    plan = shortest_plan(house, start, target)
                    with self.subTest(house=house, start=start, target=target):
                        self.assertEqual(plan is None, target not in moves)
                        if plan is not None:
                            self.assert_leads(house, start, target, plan, moves[target])

    def test_two_people_in_larger_houses(self):
        rng = random.Random(103)
        for house in sample_houses():
            start = random_state(rng, house, 2)
            moves = search(house, start)
            for target in rng.choices(list(moves), k=3) + [random_state(rng, house, 2)]:
                plan = shortest_plan(house, start, target)
                self.assertEqual(plan is None, target not in moves)
                self.assertEqual(None if plan is None else len(plan), pair_distance(house, start, target))
                if plan is not None:
                    self.assert_leads(house, start, target, plan, moves[target])

    def test_three_and_four_people(self):
        rng = random.Random(107)
        for house, people in ((row_house(5), 3), (star_house(5), 3), (FORK5, 3), (STAR4, 4), (row_house(4), 4)):
            for _ in range(2):
                start = random_state(rng, house, people)
                moves = search(house, start)
                for target in rng.choices(list(moves), k=3) + [random_state(rng, house, people)]:
                    plan = shortest_plan(house, start, target)
                    self.assertEqual(plan is None, target not in moves)
                    self.assertEqual(plan is None, find_plan(house, start, target)[0] == "never")
                    if plan is not None:
                        self.assert_leads(house, start, target, plan, moves[target])
                        self.assertIsNone(check_reach(house, start, target, ("plan", plan)))

    def test_largest(self):
        for house in (row_house(30), star_house(30), comb_house(30), random_house(random.Random(109), 30)):
            bits = tuple(door % 2 for door in range(29))
            start = state_of_bits(house, bits, 0, 0)
            target = state_of_bits(house, bits, 29, 29)
            plan = quick(shortest_plan, house, start, target)
            self.assert_leads(house, start, target, plan, 2 * len(path_by_definition(house, 0, 29)))
            self.assertIsNone(quick(shortest_plan, house, start, state_of_bits(house, bits[:-1] + (1,), 29, 29)))
            alone = ((7,), (0,) * 29)
            self.assertEqual(shortest_plan(house, alone, alone), [])
            self.assertIsNone(shortest_plan(house, alone, ((8,), (0,) * 29)))

    def test_longest_of_many_states(self):
        for house, people, _ in JUST_RIGHT[3:6]:
            start = ((0,) * people, tuple(door % people for door in range(len(house))))
            target = ((len(house),) * people, start[1])
            plan = quick(shortest_plan, house, start, target)
            self.assertEqual(play(house, start, plan), target)

    def test_count_just_right(self):
        for house, people, count in JUST_RIGHT:
            self.assertLessEqual(count, 20000)
            state = ((0,) * people, (0,) * len(house))
            with self.subTest(count=count):
                self.assertEqual(quick(shortest_plan, house, state, state), [])

    def test_count_too_large(self):
        for house, people, count in TOO_LARGE:
            self.assertGreater(count, 20000)
            state = ((0,) * people, (0,) * len(house))
            other = ((1,) * people, (0,) * len(house))
            with self.subTest(count=count):
                self.assert_error(ProblemTooLarge, {"count": count}, shortest_plan, house, state, state)
                self.assert_error(ProblemTooLarge, {"count": count}, shortest_plan, house, state, other)

    def test_errors_in_order(self):
        two = ((0, 2), (1, 0))
        large = ((0,) * 6, (0, 0))
        self.assert_error(InvalidHouse, {"reason": ("shape",)}, shortest_plan, None, None, None)
        self.assert_error(InvalidHouse, {"reason": ("ring", 1)}, shortest_plan, ((0, 1), (0, 1)), two, two)
        self.assert_error(InvalidState, {"reason": ("shape",)}, shortest_plan, ROW3, None, None)
        self.assert_error(InvalidState, {"reason": ("room", 1)}, shortest_plan, ROW3, ((0, 3), (1, 0)), None)
        self.assert_error(InvalidState, {"reason": ("barred", 1)}, shortest_plan, ROW3, two, ((0, 1), (1, True)))
        self.assert_error(InvalidState, {"reason": ("shape",)}, shortest_plan, ROW3, large, None)
        for start, target in ((two, large), (large, two), (two, ((0,), (0, 0)))):
            self.assert_error(InvalidState, {"reason": ("people",)}, shortest_plan, ROW3, start, target)
        self.assert_error(ProblemTooLarge, {"count": 26244}, shortest_plan, ROW3, large, large)


if __name__ == "__main__":
    unittest.main()
