"""Promise [82]: the plans of a length, counted and by their indexes."""

import math
import random
import unittest

from lastthrough.errors import IndexTooLarge, InvalidCount, InvalidHouse, InvalidState, ProblemTooLarge
from lastthrough.regions import is_apart, walk_lengths
from lastthrough.states import check_plan, play, possible_moves
from lastthrough.walks import count_plans, plan_at
from tests.helpers import (
    FORK5, HUGE, NOT_WHOLE, ROW3, STAR4, ErrorCase, all_states, apart_by_definition, comb_house,
    moves_by_definition, quick, random_house, random_state, row_apart, row_house, sample_states, star_house,
    state_after)

# All states of up to two people, and those of more people that are apart.
SMALL = (
    ((), 1), ((), 2), (((1, 0),), 1), (((1, 0),), 2), (ROW3, 1), (ROW3, 2), (STAR4, 2), (((3, 1), (0, 2), (1, 2)), 2),
    (STAR4, 3), (row_house(5), 3), (comb_house(5), 3))

TOGETHER = ((0, 2), (1, 0))
THREE_TOGETHER = ((0, 0, 0), (0, 1, 2))
THREE_APART = ((1, 2, 3), (0, 1, 2))

# Person 0 has branches at the rooms 2 and 3, person 1 goes straight on, and nobody meets.
BRANCHES = (((1, 2), (2, 0), (2, 3), (3, 4), (4, 5), (5, 6), (6, 7), (3, 8)), ((1, 5), (1, 1, 1, 0, 1, 0, 0, 1)))


def plans_by_definition(house, state, length):
    """All plans of the length that can be played, in sorted order."""
    plans = [([], state)]
    for _ in range(length):
        plans = [(plan + [move], state_after(house, here, move))
                 for plan, here in plans for move in moves_by_definition(house, here)]
    return sorted(plan for plan, _ in plans)


def number_by_definition(house, state, length):
    """How many plans of the length can be played, from the numbers of plans to each state."""
    numbers = {state: 1}
    for _ in range(length):
        after = {}
        for here, number in numbers.items():
            for move in moves_by_definition(house, here):
                there = state_after(house, here, move)
                after[there] = after.get(there, 0) + number
        numbers = after
    return sum(numbers.values())


def index_by_counts(house, state, plan):
    """The index of a plan, from the numbers of plans that begin with a smaller move."""
    index = 0
    here = state
    for place, move in enumerate(plan):
        for other in moves_by_definition(house, here):
            if other < move:
                index += count_plans(house, state_after(house, here, other), len(plan) - place - 1)
        here = state_after(house, here, move)
    return index


def countable_states():
    """States of small houses from which plans can be counted."""
    rng = random.Random(127)
    for house, people in SMALL:
        states = [state for state in all_states(house, people) if people <= 2 or apart_by_definition(house, state)]
        yield from ((house, state) for state in rng.sample(states, min(len(states), 60)))
    yield BRANCHES
    yield FORK5, ((0, 2), (0, 1, 0, 0))
    yield FORK5, ((0, 0), (0, 1, 0, 0))


class TestCountPlans(unittest.TestCase):

    def test_fork(self):
        state = ((0, 2), (0, 1, 0, 0))
        self.assertEqual([count_plans(FORK5, state, length) for length in range(4)], [1, 2, 0, 0])

    def test_length_0(self):
        for house, state in sample_states():
            if len(state[0]) <= 2 or is_apart(house, state):
                self.assertEqual(count_plans(house, state, 0), 1)
                self.assertEqual(plan_at(house, state, 0, 0), [])

    def test_one_room(self):
        for people in (1, 2):
            state = ((0,) * people, ())
            self.assertEqual([count_plans((), state, length) for length in (0, 1, 200)], [1, 0, 0])

    def test_one_person(self):
        for room in range(5):
            state = ((room,), (0,) * 4)
            self.assertEqual([count_plans(FORK5, state, length) for length in (0, 1, 2, 200)], [1, 0, 0, 0])

    def test_length_1(self):
        for house, state in sample_states():
            if len(state[0]) <= 2 or is_apart(house, state):
                self.assertEqual(count_plans(house, state, 1), len(possible_moves(house, state)))

    def test_one_door(self):
        house = ((0, 1),)
        # Only person 1 can go first, and then they take turns.
        self.assertEqual(count_plans(house, ((0, 0), (0,)), 200), 1)
        self.assertEqual(plan_at(house, ((0, 0), (0,)), 4, 0), [(1, 0, 1), (0, 0, 1), (1, 1, 0), (0, 1, 0)])

    def test_against_enumeration(self):
        for house, state in countable_states():
            for length in range(5):
                with self.subTest(house=house, state=state, length=length):
                    expected = len(plans_by_definition(house, state, length))
                    self.assertEqual(count_plans(house, state, length), expected)

    def test_longer_plans(self):
        rng = random.Random(131)
        for house in (ROW3, STAR4, FORK5, ((3, 1), (0, 2), (1, 2))):
            for _ in range(3):
                state = random_state(rng, house, 2)
                for length in (17, 60, 200):
                    self.assertEqual(count_plans(house, state, length), number_by_definition(house, state, length))

    def test_walks_mixed_in_any_order(self):
        for people in (2, 3, 6):
            house, state = row_apart(people)
            self.assertTrue(is_apart(house, state))
            most = math.factorial(3 * people) // 6 ** people
            self.assertEqual(quick(count_plans, house, state, 3 * people), most)
            self.assertEqual(count_plans(house, state, 3 * people + 1), 0)
            self.assertEqual(count_plans(house, state, 200), 0)
            self.assertEqual(count_plans(house, state, 1), people)
            for length in (2, 5):
                self.assertEqual(count_plans(house, state, length), number_by_definition(house, state, length))

    def test_branches(self):
        house, state = BRANCHES
        self.assertTrue(is_apart(house, state))
        for length in range(8):
            self.assertEqual(count_plans(house, state, length), number_by_definition(house, state, length))
        longest = sum(most for _, most in walk_lengths(house, state))
        self.assertGreater(count_plans(house, state, longest), 0)
        self.assertEqual(count_plans(house, state, longest + 1), 0)

    def test_largest(self):
        rng = random.Random(137)
        for house in (row_house(30), star_house(30), comb_house(30), random_house(rng, 30)):
            for state in (((0, 0), (0,) * 29), ((0, 29), (1,) * 15 + (0,) * 14), ((3, 7), (0, 1) * 14 + (1,))):
                number = quick(count_plans, house, state, 200)
                plan = quick(plan_at, house, state, 200, number - 1) if number else []
                play(house, state, plan)
                self.assertEqual(count_plans(house, state, 30), number_by_definition(house, state, 30))


class TestPlanAt(ErrorCase):

    def test_fork(self):
        state = ((0, 2), (0, 1, 0, 0))
        self.assertEqual([plan_at(FORK5, state, 1, index) for index in (0, 1)], [[(1, 2, 3)], [(1, 2, 4)]])

    def test_every_index(self):
        for house, state in countable_states():
            for length in range(4):
                expected = plans_by_definition(house, state, length)
                with self.subTest(house=house, state=state, length=length):
                    found = [plan_at(house, state, length, index) for index in range(len(expected))]
                    self.assertEqual(found, expected)
                    for index in (-1, len(expected), len(expected) + 1):
                        self.assert_error(
                            IndexTooLarge, {"count": len(expected)}, plan_at, house, state, length, index)

    def test_every_index_of_branches(self):
        house, state = BRANCHES
        for length in range(6):
            expected = plans_by_definition(house, state, length)
            found = [plan_at(house, state, length, index) for index in range(len(expected))]
            self.assertEqual(found, expected)

    def test_indexes_of_long_plans(self):
        rng = random.Random(139)
        cases = [(*row_apart(people), 3 * people) for people in (2, 4, 6)]
        cases.append((*row_apart(6), 11))
        cases.extend((house, ((0, 0), (0,) * len(house)), length)
                     for house, length in ((FORK5, 12), (random_house(rng, 9), 8), (star_house(6), 40)))
        for house, state, length in cases:
            count = count_plans(house, state, length)
            plans = []
            for index in sorted({0, 1, count // 2, rng.randrange(count), count - 2, count - 1}):
                plan = quick(plan_at, house, state, length, index)
                self.assertIsNone(check_plan(house, len(state[0]), plan))
                self.assertEqual(len(plan), length)
                play(house, state, plan)
                self.assertEqual(index_by_counts(house, state, plan), index)
                plans.append(plan)
            self.assertEqual(plans, sorted(plans))
            self.assert_error(IndexTooLarge, {"count": count}, plan_at, house, state, length, count)

    def test_wrong_indexes(self):
        state = ((0, 2), (0, 1, 0, 0))
        for index in NOT_WHOLE + (-1, 2, 3, HUGE, -HUGE):
            self.assert_error(IndexTooLarge, {"count": 2}, plan_at, FORK5, state, 1, index)
            self.assert_error(IndexTooLarge, {"count": 0}, plan_at, FORK5, state, 2, index)
            self.assert_error(IndexTooLarge, {"count": 1}, plan_at, ((0, 1),), ((0, 0), (0,)), 5, index)
        self.assert_error(IndexTooLarge, {"count": 0}, plan_at, (), ((0,), ()), 1, 0)
        self.assert_error(IndexTooLarge, {"count": 0}, plan_at, (), ((0, 0), ()), 1, 0)
        self.assert_error(IndexTooLarge, {"count": 0}, plan_at, FORK5, state, 200, 0)
        self.assert_error(IndexTooLarge, {"count": 1}, plan_at, STAR4, THREE_APART, 0, True)


class TestErrorsOfLengths(ErrorCase):

    def assert_both(self, error, fields, *arguments):
        self.assert_error(error, fields, count_plans, *arguments)
        for index in (0, -1, None):
            self.assert_error(error, fields, plan_at, *arguments, index)

    def test_houses_and_states_first(self):
        self.assert_both(InvalidHouse, {"reason": ("shape",)}, None, None, None)
        self.assert_both(InvalidHouse, {"reason": ("ring", 1)}, ((0, 1), (1, 0)), TOGETHER, -1)
        self.assert_both(InvalidState, {"reason": ("shape",)}, ROW3, None, None)
        self.assert_both(InvalidState, {"reason": ("room", 1)}, ROW3, ((0, 3), (1, 0)), -1)
        self.assert_both(InvalidState, {"reason": ("barred", 0)}, ROW3, ((0, 1, 2), (3, 0)), 201)

    def test_wrong_lengths(self):
        for length in NOT_WHOLE + (-1, -201, -HUGE, 1.5):
            self.assert_both(InvalidCount, {}, ROW3, TOGETHER, length)
            self.assert_both(InvalidCount, {}, STAR4, THREE_APART, length)
            self.assert_both(InvalidCount, {}, STAR4, THREE_TOGETHER, length)

    def test_together_with_more_than_two_people(self):
        for length in (0, 1, 200, 201, HUGE):
            self.assert_both(ProblemTooLarge, {"count": length}, STAR4, THREE_TOGETHER, length)
            self.assert_both(ProblemTooLarge, {"count": length}, (), ((0,) * 6, ()), length)
        self.assertEqual(count_plans(STAR4, THREE_APART, 0), 1)

    def test_lengths_200_and_201(self):
        for house, state in ((ROW3, TOGETHER), (STAR4, THREE_APART), ((), ((0,), ())), (FORK5, ((1, 1), (0,) * 4))):
            self.assertIs(count_plans(house, state, 200).__class__, int)
            for length in (201, 202, HUGE):
                self.assert_both(ProblemTooLarge, {"count": length}, house, state, length)


if __name__ == "__main__":
    unittest.main()
