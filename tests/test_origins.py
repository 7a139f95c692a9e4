"""Promises [50] to [52], with [8]: origins."""

import random
import unittest

from lastthrough.errors import IndexTooLarge, InvalidHouse, InvalidState
from lastthrough.origins import count_previous, explained_doors, groups, previous_at, previous_index
from tests.helpers import (
    FORK5, HUGE, NOT_WHOLE, ROW3, STAR4, ErrorCase, all_states, comb_house, groups_by_definition, moves_by_definition,
    quick, random_house, random_state, row_house, sample_states, search, star_house, state_after)

SMALL = (((), 1), ((), 3), (((1, 0),), 1), (((1, 0),), 3), (ROW3, 1), (ROW3, 2), (ROW3, 3), (STAR4, 2),
         (((3, 1), (0, 2), (1, 2)), 2))

BAD_CALLS = (
    (InvalidHouse, ("shape",), (None, None)),
    (InvalidHouse, ("ring", 1), (((0, 1), (0, 1)), ((0,), (0, 0)))),
    (InvalidState, ("shape",), (ROW3, None)),
    (InvalidState, ("room", 0), (ROW3, ((3,), (1, 1)))),
    (InvalidState, ("barred", 0), (ROW3, ((0,), (1, 0)))),
)


def previous_by_definition(house, people):
    """For each state of the house the states from which a single move leads to it, in sorted order."""
    states = all_states(house, people)
    before = {state: [] for state in states}
    for state in sorted(states):
        for move in moves_by_definition(house, state):
            before[state_after(house, state, move)].append(state)
    return before


def doors_used(house, states):
    """For each state the doors that some plan uses which ends in it."""
    used = {state: set() for state in states}
    grown = True
    while grown:
        grown = False
        for state in states:
            for move in moves_by_definition(house, state):
                door = [set(ends) for ends in house].index(set(move[1:]))
                after = used[state_after(house, state, move)]
                more = used[state] | {door}
                grown = grown or not more <= after
                after |= more
    return used


class TestGroups(ErrorCase):

    def test_star(self):
        self.assertEqual(groups(STAR4, ((1, 2, 3), (0, 0, 1))), [[0, 1, 2, 3]])
        self.assertEqual(groups(STAR4, ((1, 2, 3), (2, 1, 0))), [[0, 2], [1], [3]])

    def test_no_door_is_explained(self):
        self.assertEqual(groups(ROW3, ((2, 0), (0, 1))), [[0], [1], [2]])
        self.assertEqual(groups(ROW3, ((0, 2), (1, 0))), [[0], [1], [2]])

    def test_one_room(self):
        self.assertEqual(groups((), ((0,), ())), [[0]])
        self.assertEqual(groups((), ((0, 0, 0), ())), [[0]])

    def test_one_person(self):
        self.assertEqual(groups(FORK5, ((3,), (0, 0, 0, 0))), [[0, 1, 2, 3, 4]])

    def test_doors_that_bar_nobody_near(self):
        self.assertEqual(groups(FORK5, ((0, 4), (1, 0, 0, 1))), [[0], [1], [2, 4], [3]])

    def test_sorted_by_first_rooms(self):
        house = ((4, 0), (3, 1), (2, 0), (1, 2))
        self.assertEqual(groups(house, ((4, 3), (0, 1, 1, 0))), [[0, 4], [1, 3], [2]])

    def test_groups_by_definition(self):
        for house, state in sample_states():
            with self.subTest(house=house, state=state):
                found = groups(house, state)
                self.assertEqual(found, sorted(sorted(group) for group in groups_by_definition(house, state)))
                self.assertIs(found.__class__, list)

    def test_all_small_states(self):
        for house, people in SMALL:
            for state in all_states(house, people):
                expected = sorted(sorted(group) for group in groups_by_definition(house, state))
                self.assertEqual(groups(house, state), expected)

    def test_largest(self):
        for house in (row_house(30), star_house(30), comb_house(30)):
            self.assertEqual(quick(groups, house, ((29,) * 6, (5,) * 29)), [list(range(30))])
            self.assertEqual(len(quick(groups, house, ((14,) + (3,) * 5, (0,) * 29))), 1)
        house = row_house(30)
        self.assertEqual(groups(house, ((0, 29), (1,) * 15 + (0,) * 14)), [[room] for room in range(30)])
        self.assertEqual(groups(house, ((0, 29), (0,) * 15 + (1,) * 14)), [list(range(30))])

    def test_errors_in_order(self):
        for error, reason, arguments in BAD_CALLS:
            self.assert_error(error, {"reason": reason}, groups, *arguments)


class TestExplainedDoors(ErrorCase):

    def test_row(self):
        self.assertEqual(explained_doors(ROW3, ((1, 2), (0, 0))), [0, 1])
        self.assertEqual(explained_doors(ROW3, ((0, 2), (0, 0))), [0, 1])
        self.assertEqual(explained_doors(ROW3, ((0, 2), (1, 1))), [0, 1])
        self.assertEqual(explained_doors(ROW3, ((0, 2), (1, 0))), [])
        self.assertEqual(explained_doors(ROW3, ((0, 1), (1, 0))), [0, 1])
        self.assertEqual(explained_doors(FORK5, ((0, 4), (0, 1, 1, 0))), [0])

    def test_door_whose_person_came_to_one_group_with_the_ends(self):
        # Door 2 bars person 1, who is at neither of its ends, but in the group of one of them.
        self.assertEqual(explained_doors(FORK5, ((1, 0), (0, 0, 1, 1))), [0, 1, 2, 3])
        self.assertEqual(explained_doors(FORK5, ((1, 0), (1, 1, 0, 0))), [0, 1, 2, 3])

    def test_one_room(self):
        self.assertEqual(explained_doors((), ((0, 0), ())), [])

    def test_doors_by_definition(self):
        for house, state in sample_states():
            found = groups_by_definition(house, state)
            expected = [door for door, ends in enumerate(house) if any(set(ends) <= group for group in found)]
            self.assertEqual(explained_doors(house, state), expected)

    def test_doors_of_plans_that_end_in_the_state(self):
        for house, people in SMALL:
            for state, used in doors_used(house, all_states(house, people)).items():
                self.assertLessEqual(used, set(explained_doors(house, state)))

    def test_largest(self):
        for house in (row_house(30), star_house(30), comb_house(30)):
            self.assertEqual(quick(explained_doors, house, ((29,) * 6, (5,) * 29)), list(range(29)))

    def test_errors_in_order(self):
        for error, reason, arguments in BAD_CALLS:
            self.assert_error(error, {"reason": reason}, explained_doors, *arguments)


class TestPrevious(ErrorCase):

    def test_row(self):
        state = ((1, 2), (0, 0))
        before = [((0, 2), (1, 0)), ((2, 2), (0, 1))]
        self.assertEqual(count_previous(ROW3, state), 2)
        self.assertEqual([previous_at(ROW3, state, index) for index in range(2)], before)
        self.assertEqual([previous_index(ROW3, state, previous) for previous in before], [0, 1])

    def test_each_person_whom_the_door_can_have_barred(self):
        house = ((0, 1),)
        self.assertEqual(count_previous(house, ((0, 0, 1), (1,))), 2)
        self.assertEqual(previous_at(house, ((0, 0, 1), (1,)), 0), ((0, 1, 1), (0,)))
        self.assertEqual(previous_at(house, ((0, 0, 1), (1,)), 1), ((0, 1, 1), (2,)))
        self.assertIsNone(previous_index(house, ((0, 0, 1), (1,)), ((0, 1, 1), (1,))))

    def test_none(self):
        for house, state in (((), ((0,), ())), ((), ((0, 0), ())), (ROW3, ((1,), (0, 0))), (ROW3, ((0, 2), (1, 0)))):
            self.assertEqual(count_previous(house, state), 0)
            self.assertIsNone(previous_index(house, state, state))
            self.assert_error(IndexTooLarge, {"count": 0}, previous_at, house, state, 0)

    def test_all_small_states(self):
        for house, people in SMALL + ((STAR4, 3),):
            for state, before in previous_by_definition(house, people).items():
                with self.subTest(house=house, state=state):
                    self.assertEqual(count_previous(house, state), len(before))
                    self.assertEqual([previous_at(house, state, index) for index in range(len(before))], before)
                    found = [previous_index(house, state, previous) for previous in before]
                    self.assertEqual(found, list(range(len(before))))

    def test_states_from_which_no_single_move_leads_here(self):
        for house, people in ((((1, 0),), 3), (ROW3, 2), (STAR4, 2)):
            for state, before in previous_by_definition(house, people).items():
                for other in all_states(house, people):
                    expected = before.index(other) if other in before else None
                    self.assertEqual(previous_index(house, state, other), expected)

    def test_larger_houses(self):
        for house, state in sample_states():
            count = count_previous(house, state)
            before = [previous_at(house, state, index) for index in range(count)]
            self.assertEqual(before, sorted(set(before)))
            self.assertEqual([previous_index(house, state, previous) for previous in before], list(range(count)))
            for previous in before:
                after = [state_after(house, previous, move) for move in moves_by_definition(house, previous)]
                self.assertIn(state, after)
            for move in moves_by_definition(house, state):
                after = state_after(house, state, move)
                found = previous_index(house, after, state)
                self.assertEqual(previous_at(house, after, found), state)

    def test_whole_numbers(self):
        for index in range(2):
            rooms, barred = previous_at(ROW3, ((1, 2), (0, 0)), index)
            self.assertEqual({item.__class__ for item in rooms + barred}, {int})
        self.assertIs(previous_index(ROW3, ((1, 2), (0, 0)), ((0, 2), (1, 0))).__class__, int)

    def test_largest(self):
        house = star_house(30)
        state = ((0,) * 6, tuple(door % 6 for door in range(29)))
        self.assertEqual(quick(count_previous, house, state), 145)
        before = [quick(previous_at, house, state, index) for index in range(145)]
        self.assertEqual(before, sorted(set(before)))
        self.assertEqual(quick(previous_index, house, state, before[144]), 144)
        house = random_house(random.Random(41), 30)
        state = random_state(random.Random(43), house, 6)
        self.assertEqual(quick(count_previous, house, state) % 5, 0)

    def test_errors_in_order(self):
        for error, reason, arguments in BAD_CALLS:
            self.assert_error(error, {"reason": reason}, count_previous, *arguments)
            self.assert_error(error, {"reason": reason}, previous_at, *arguments, None)
            self.assert_error(error, {"reason": reason}, previous_index, *arguments, None)

    def test_index_too_large(self):
        state = ((1, 2), (0, 0))
        for index in NOT_WHOLE + (-1, 2, 3, HUGE, -HUGE):
            self.assert_error(IndexTooLarge, {"count": 2}, previous_at, ROW3, state, index)
        self.assert_error(IndexTooLarge, {"count": 145}, previous_at, star_house(30), (
            (0,) * 6, tuple(door % 6 for door in range(29))), 145)

    def test_invalid_previous(self):
        state = ((1, 2), (0, 0))
        for previous, reason in (
                (None, ("shape",)), ([(0, 2), (1, 0)], ("shape",)), (((0, 2), (1,)), ("shape",)),
                (((0, 3), (1, 2)), ("room", 1)), (((0, True), (1, 0)), ("room", 1)), (((0, 2), (1, 2)), ("barred", 1)),
                (((0,), (0, 0)), ("people",)), (((0, 2, 2), (1, 0)), ("people",)), (((0,), (1, 0)), ("barred", 0)),
                (((0, 2, 2), (1, 3)), ("barred", 1)), (((0, 2, 3), (1, 0)), ("room", 2))):
            with self.subTest(previous=previous):
                self.assert_error(InvalidState, {"reason": reason}, previous_index, ROW3, state, previous)


class TestSearch(unittest.TestCase):

    def test_groups_tell_where_people_came_from(self):
        # Nobody comes to a group from outside, as all doors of a plan are explained.
        for start in (((0, 2), (1, 1)), ((0, 2), (1, 0)), ((1, 1), (0, 1))):
            for state in search(ROW3, start):
                for group in groups(ROW3, state):
                    members = [person for person in range(2) if state[0][person] in group]
                    self.assertEqual(members, [person for person in range(2) if start[0][person] in group])


if __name__ == "__main__":
    unittest.main()
