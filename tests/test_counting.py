"""Promises [80] and [81]: counting states."""

import functools
import itertools
import math
import random
import unittest

from lastthrough.counting import count_apart, count_following, count_frozen, count_states
from lastthrough.errors import InvalidCount, InvalidHouse, InvalidState
from lastthrough.regions import is_apart
from lastthrough.states import possible_moves
from tests.helpers import (
    FORK5, HUGE, NOT_WHOLE, ROW3, STAR4, ErrorCase, all_states, apart_by_definition, comb_house,
    moves_by_definition, path_by_definition, quick, random_house, region_by_definition, row_apart, row_house,
    sample_houses, sample_states, search, star_house)

SMALL = (
    ((), 1), ((), 2), ((), 5), (((0, 1),), 1), (((1, 0),), 2), (((1, 0),), 4), (ROW3, 1), (ROW3, 2), (ROW3, 3),
    (ROW3, 4), (STAR4, 1), (STAR4, 2), (STAR4, 3), (row_house(4), 2), (row_house(4), 3),
    (((3, 1), (0, 2), (1, 2)), 2), (FORK5, 2), (row_house(6), 2), (comb_house(5), 2), (star_house(5), 2))

LARGE = (row_house(30), star_house(30), comb_house(30), random_house(random.Random(113), 30))


def frozen_by_choice(house, people):
    """How many states are frozen, from all choices of rooms that are no neighbours."""
    found = 0
    for rooms in itertools.combinations(range(len(house) + 1), people):
        touched = [(a in rooms) + (b in rooms) for a, b in house]
        if 2 not in touched:
            found += people ** touched.count(0)
    return found * math.factorial(people)


def apart_for_two(house):
    """How many states of two people are apart, from the kept bits on the way between each two rooms."""
    found = 0
    for a, b in itertools.product(range(len(house) + 1), repeat=2):
        way = len(path_by_definition(house, a, b))
        found += 2 ** (len(house) - way) * (2 ** way - way - 1)
    return found


def apart_in_row(rooms, people):
    """How many states of a row are apart, region by region from the row's first room on."""

    @functools.lru_cache(None)
    def after_gap(gap, left):
        # The room `gap`, if there is one, belongs to no region.
        if left == 0:
            return people ** (rooms - 1 - gap)
        found = 0
        for begin in range(gap + 1, rooms):
            free = max(0, begin - max(gap, 0) - 1)
            for end in range(begin + 1, rooms + 1):
                inside = (end - begin) * (people - 1) ** (end - begin - 1)
                rest = (left == 1) if end == rooms else after_gap(end, left - 1)
                found += people ** free * inside * rest
        return found

    return math.factorial(people) * after_gap(-1, people)


class TestCountStates(ErrorCase):

    def test_row(self):
        self.assertEqual(count_states(ROW3, 2), 36)
        self.assertEqual(count_states(ROW3, 1), 3)
        self.assertEqual(count_states(ROW3, 3), 243)

    def test_one_room(self):
        for people in range(1, 7):
            self.assertEqual(count_states((), people), 1)

    def test_all_states(self):
        for house, people in SMALL:
            self.assertEqual(count_states(house, people), len(all_states(house, people)))

    def test_largest(self):
        for house in LARGE:
            self.assertEqual(quick(count_states, house, 6), 30 ** 6 * 6 ** 29)
            self.assertEqual(quick(count_states, house, 1), 30)

    def test_errors_in_order(self):
        for call in (count_states, count_apart, count_frozen):
            self.assert_error(InvalidHouse, {"reason": ("shape",)}, call, list(ROW3), 0)
            self.assert_error(InvalidHouse, {"reason": ("door", 1)}, call, ((0, 1), (1, 3)), None)
            self.assert_error(InvalidHouse, {"reason": ("ring", 1)}, call, ((0, 1), (1, 0)), True)
            for people in NOT_WHOLE + (0, -1, -HUGE, 2.0, "2"):
                for house in ((), ROW3):
                    self.assert_error(InvalidCount, {}, call, house, people)

    def test_results_are_whole_numbers(self):
        for call in (count_states, count_apart, count_frozen):
            for house, people in (((), 1), ((), 3), (ROW3, 1), (ROW3, 2), (STAR4, 3)):
                self.assertIs(call(house, people).__class__, int)


class TestCountApart(unittest.TestCase):

    def test_row(self):
        self.assertEqual(count_apart(ROW3, 2), 2)
        self.assertEqual(count_apart(ROW3, 3), 0)

    def test_one_room(self):
        self.assertEqual(count_apart((), 1), 1)
        for people in range(2, 7):
            self.assertEqual(count_apart((), people), 0)

    def test_one_person(self):
        for house in sample_houses():
            self.assertEqual(count_apart(house, 1), len(house) + 1)

    def test_all_states(self):
        for house, people in SMALL:
            with self.subTest(house=house, people=people):
                apart = [state for state in all_states(house, people) if apart_by_definition(house, state)]
                self.assertEqual(count_apart(house, people), len(apart))
                self.assertTrue(all(is_apart(house, state) for state in apart))

    def test_two_people(self):
        for house in sample_houses() + list(LARGE):
            self.assertEqual(count_apart(house, 2), apart_for_two(house))

    def test_star(self):
        # With several people, each of them stays behind a door of the middle.
        for people in range(2, 7):
            for rooms in (4, 8, 30):
                places = math.perm(rooms - 1, people)
                expected = places * people ** max(0, rooms - 1 - people)
                self.assertEqual(count_apart(star_house(rooms), people), expected)
                self.assertEqual(count_frozen(star_house(rooms), people), expected)

    def test_row_by_regions(self):
        for rooms, people in ((3, 2), (5, 2), (5, 3), (7, 3), (12, 4), (30, 2), (30, 3), (30, 6)):
            self.assertEqual(quick(count_apart, row_house(rooms), people), apart_in_row(rooms, people))

    def test_more_people_than_have_room(self):
        self.assertEqual(count_apart(FORK5, 4), 0)
        self.assertEqual(count_apart(row_house(10), 6), 0)
        self.assertEqual(count_apart(row_house(11), 6), math.factorial(6))


class TestCountFrozen(unittest.TestCase):

    def test_star(self):
        self.assertEqual(count_frozen(STAR4, 3), 6)
        self.assertEqual(count_frozen(STAR4, 2), 12)
        self.assertEqual(count_frozen(STAR4, 1), 4)
        self.assertEqual(count_frozen(STAR4, 4), 0)

    def test_one_room(self):
        for people in range(1, 7):
            self.assertEqual(count_frozen((), people), 1)

    def test_one_person(self):
        for house in sample_houses():
            self.assertEqual(count_frozen(house, 1), len(house) + 1)

    def test_all_states(self):
        for house, people in SMALL:
            with self.subTest(house=house, people=people):
                frozen = [state for state in all_states(house, people) if not moves_by_definition(house, state)]
                self.assertEqual(count_frozen(house, people), len(frozen))
                self.assertFalse(any(possible_moves(house, state) for state in frozen))

    def test_all_choices_of_rooms(self):
        for house in sample_houses() + list(LARGE):
            if len(house) > 0:
                for people in (1, 2, 3):
                    self.assertEqual(count_frozen(house, people), frozen_by_choice(house, people))

    def test_largest(self):
        for house in LARGE:
            quick(count_frozen, house, 6)
            self.assertLess(count_frozen(house, 6), count_states(house, 6))
        self.assertEqual(count_frozen(row_house(11), 6), math.factorial(6))
        self.assertEqual(count_frozen(row_house(10), 6), 0)
        self.assertEqual(count_frozen(row_house(13), 6), frozen_by_choice(row_house(13), 6))


class TestCountFollowing(ErrorCase):

    def test_fork(self):
        self.assertEqual(count_following(FORK5, ((0, 2), (0, 1, 0, 0))), 3)
        self.assertEqual(count_following(STAR4, ((1, 2, 3), (0, 1, 2))), 1)

    def test_together(self):
        self.assertIsNone(count_following(ROW3, ((0, 2), (1, 0))))
        self.assertIsNone(count_following(ROW3, ((1, 1), (0, 1))))
        self.assertIsNone(count_following((), ((0, 0), ())))

    def test_one_person(self):
        self.assertEqual(count_following((), ((0,), ())), 1)
        for room in range(5):
            self.assertEqual(count_following(FORK5, ((room,), (0,) * 4)), 1)

    def test_against_search(self):
        for house, people in SMALL:
            for state in all_states(house, people):
                if apart_by_definition(house, state):
                    self.assertEqual(count_following(house, state), len(search(house, state)))
                else:
                    self.assertIsNone(count_following(house, state))

    def test_product_of_regions(self):
        found = []
        for house, state in sample_states():
            number = count_following(house, state)
            regions = [region_by_definition(house, state, person) for person in range(len(state[0]))]
            apart = apart_by_definition(house, state)
            self.assertEqual(number, math.prod(len(rooms) for rooms in regions) if apart else None)
            found.append(number)
        self.assertIn(None, found)

    def test_largest(self):
        for people in range(2, 7):
            house, state = row_apart(people)
            self.assertTrue(is_apart(house, state))
            self.assertEqual(quick(count_following, house, state), 4 ** people)

    def test_errors_in_order(self):
        self.assert_error(InvalidHouse, {"reason": ("shape",)}, count_following, None, None)
        self.assert_error(InvalidHouse, {"reason": ("ring", 1)}, count_following, ((0, 1), (1, 0)), ((5,), ()))
        self.assert_error(InvalidState, {"reason": ("shape",)}, count_following, ROW3, [(0, 1), (0, 1)])
        self.assert_error(InvalidState, {"reason": ("room", 1)}, count_following, ROW3, ((0, 5), (9, 9)))
        self.assert_error(InvalidState, {"reason": ("barred", 0)}, count_following, ROW3, ((0, 1), (2, 0)))


if __name__ == "__main__":
    unittest.main()
