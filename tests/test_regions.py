"""Promises [40] to [43], with [7]: regions."""

import unittest

from lastthrough.errors import InvalidHouse, InvalidPerson, InvalidRoom, InvalidState
from lastthrough.regions import is_apart, region, walk_lengths, walk_to
from lastthrough.states import play
from tests.helpers import (
    FORK5, HUGE, NOT_WHOLE, ROW3, STAR4, ErrorCase, all_states, moves_by_definition, random_house,
    region_by_definition, row_house, sample_states, star_house, state_after, walks_by_definition)

SMALL = (((), 3), (((1, 0),), 3), (ROW3, 2), (ROW3, 3), (STAR4, 2), (((3, 1), (0, 2), (1, 2)), 2), (STAR4, 3))


def states_before(house, states, goals):
    """The states from which some plan leads to one of the goals."""
    before = {state: [] for state in states}
    for state in states:
        for move in moves_by_definition(house, state):
            before[state_after(house, state, move)].append(state)
    found = set(goals)
    waiting = list(found)
    while waiting:
        for state in before[waiting.pop()]:
            if state not in found:
                found.add(state)
                waiting.append(state)
    return found


class TestRegion(ErrorCase):

    def test_fork(self):
        state = ((0, 4), (1, 0, 1, 0))
        self.assertEqual(region(FORK5, state, 0), [0, 1])
        self.assertEqual(region(FORK5, state, 1), [1, 2, 4])

    def test_one_room(self):
        for person in range(3):
            self.assertEqual(region((), ((0, 0, 0), ()), person), [0])

    def test_one_person(self):
        for room in range(5):
            self.assertEqual(region(FORK5, ((room,), (0, 0, 0, 0)), 0), [room])

    def test_people_in_one_room(self):
        state = ((1, 1), (0, 1))
        self.assertEqual(region(ROW3, state, 0), [1, 2])
        self.assertEqual(region(ROW3, state, 1), [0, 1])

    def test_door_that_bars_somebody_elsewhere(self):
        self.assertEqual(region(ROW3, ((0, 2), (1, 1)), 0), [0, 1, 2])

    def test_regions_by_definition(self):
        for house, state in sample_states():
            for person in range(len(state[0])):
                with self.subTest(house=house, state=state, person=person):
                    self.assertEqual(region(house, state, person), region_by_definition(house, state, person))

    def test_rooms_of_all_walks(self):
        for house, state in sample_states():
            if len(house) < 12:
                for person in range(len(state[0])):
                    walks = walks_by_definition(house, state, person)
                    rooms = {after[0][person] for _, after in walks}
                    self.assertEqual(region(house, state, person), sorted(rooms))

    def test_errors_in_order(self):
        self.assert_error(InvalidHouse, {"reason": ("shape",)}, region, list(ROW3), None, None)
        self.assert_error(InvalidState, {"reason": ("room", 1)}, region, ROW3, ((0, 5), (9, 9)), None)
        for person in NOT_WHOLE + (-1, 2, HUGE, -HUGE):
            self.assert_error(InvalidPerson, {"person": person}, region, ROW3, ((0, 2), (1, 0)), person)

    def test_field_is_the_argument(self):
        person = [0]
        with self.assertRaises(InvalidPerson) as caught:
            region(ROW3, ((0, 2), (1, 0)), person)
        self.assertIs(caught.exception.person, person)


class TestWalkTo(ErrorCase):

    def test_fork(self):
        state = ((0, 4), (1, 1, 0, 1))
        self.assertEqual(walk_to(FORK5, state, 0, 4), [(0, 0, 1), (0, 1, 2), (0, 2, 4)])
        self.assertIsNone(walk_to(FORK5, state, 0, 3))
        self.assertIsNone(walk_to(FORK5, state, 1, 2))

    def test_room_of_the_person(self):
        self.assertEqual(walk_to((), ((0,), ()), 0, 0), [])
        self.assertEqual(walk_to(ROW3, ((1, 1), (0, 1)), 0, 1), [])

    def test_one_person(self):
        self.assertEqual(walk_to(ROW3, ((1,), (0, 0)), 0, 1), [])
        self.assertIsNone(walk_to(ROW3, ((1,), (0, 0)), 0, 0))

    def test_walks_can_be_played(self):
        for house, state in sample_states():
            for person, start in enumerate(state[0]):
                within = region_by_definition(house, state, person)
                for room in range(len(house) + 1):
                    plan = walk_to(house, state, person, room)
                    self.assertEqual(plan is not None, room in within)
                    if plan is not None:
                        self.assertIsInstance(plan, list)
                        self.assertEqual(play(house, state, plan)[0][person], room)
                        self.assertEqual([move[0] for move in plan], [person] * len(plan))
                        self.assertEqual(len({start, *(move[2] for move in plan)}), len(plan) + 1)

    def test_shortest_walks(self):
        for house, state in sample_states():
            if len(house) < 8:
                for person in range(len(state[0])):
                    for plan, after in walks_by_definition(house, state, person):
                        found = walk_to(house, state, person, after[0][person])
                        self.assertLessEqual(len(found), len(plan))

    def test_errors_in_order(self):
        state = ((0, 2), (1, 0))
        self.assert_error(InvalidHouse, {"reason": ("ring", 1)}, walk_to, ((0, 1), (0, 1)), None, None, None)
        self.assert_error(InvalidState, {"reason": ("barred", 0)}, walk_to, ROW3, ((0,), (1, 0)), None, None)
        for wrong in NOT_WHOLE + (-1, 3, HUGE, -HUGE):
            self.assert_error(InvalidPerson, {"person": wrong}, walk_to, ROW3, state, wrong, "room")
            self.assert_error(InvalidPerson, {"person": wrong}, walk_to, ROW3, state, wrong, 0)
            self.assert_error(InvalidRoom, {"room": wrong}, walk_to, ROW3, state, 0, wrong)
        self.assert_error(InvalidPerson, {"person": 2}, walk_to, ROW3, state, 2, 0)

    def test_fields_are_the_arguments(self):
        wrong = [0]
        with self.assertRaises(InvalidPerson) as caught:
            walk_to(ROW3, ((0, 2), (1, 0)), wrong, 0)
        self.assertIs(caught.exception.person, wrong)
        with self.assertRaises(InvalidRoom) as caught:
            walk_to(ROW3, ((0, 2), (1, 0)), 0, wrong)
        self.assertIs(caught.exception.room, wrong)


class TestIsApart(ErrorCase):

    def test_one_person(self):
        self.assertIs(is_apart((), ((0,), ())), True)
        self.assertIs(is_apart(FORK5, ((3,), (0, 0, 0, 0))), True)

    def test_people_in_one_room(self):
        self.assertIs(is_apart((), ((0, 0), ())), False)
        self.assertIs(is_apart(ROW3, ((1, 1), (0, 1))), False)

    def test_one_door_bars_one_person_only(self):
        self.assertIs(is_apart(((0, 1),), ((0, 1), (0,))), False)
        self.assertIs(is_apart(((0, 1),), ((0, 1), (1,))), False)

    def test_two_doors(self):
        self.assertIs(is_apart(ROW3, ((0, 2), (0, 1))), True)
        self.assertIs(is_apart(ROW3, ((0, 2), (1, 0))), False)

    def test_two_of_many(self):
        state = ((1, 2, 3), (0, 1, 2))
        self.assertIs(is_apart(STAR4, state), True)
        self.assertIs(is_apart(STAR4, ((1, 2, 3), (0, 1, 1))), False)
        self.assertIs(is_apart(STAR4, ((1, 2, 2), (0, 1, 2))), False)

    def test_regions_have_a_room_in_common(self):
        for house, state in sample_states():
            rooms = []
            for person in range(len(state[0])):
                rooms.extend(region_by_definition(house, state, person))
            self.assertIs(is_apart(house, state), len(set(rooms)) == len(rooms))

    def test_nobody_ever_meets(self):
        for house, people in SMALL:
            states = all_states(house, people)
            meetings = [state for state in states if len(set(state[0])) < people]
            gatherings = [state for state in states if len(set(state[0])) == 1]
            can_meet = states_before(house, states, meetings)
            can_gather = states_before(house, states, gatherings)
            for state in states:
                with self.subTest(house=house, state=state):
                    self.assertIs(is_apart(house, state), state not in can_meet)
                    self.assertIs(is_apart(house, state), state not in can_gather)

    def test_errors_in_order(self):
        self.assert_error(InvalidHouse, {"reason": ("door", 0)}, is_apart, (((0,), 1),), None)
        self.assert_error(InvalidState, {"reason": ("shape",)}, is_apart, ROW3, [(0,), (0, 0)])
        self.assert_error(InvalidState, {"reason": ("room", 1)}, is_apart, ROW3, ((0, True), (2, 0)))


class TestWalkLengths(ErrorCase):

    def test_together(self):
        self.assertIsNone(walk_lengths((), ((0, 0), ())))
        self.assertIsNone(walk_lengths(ROW3, ((0, 2), (1, 0))))

    def test_one_person(self):
        self.assertEqual(walk_lengths((), ((0,), ())), [(0, 0)])
        self.assertEqual(walk_lengths(FORK5, ((2,), (0, 0, 0, 0))), [(0, 0)])

    def test_fewest_and_most_differ(self):
        house = ((0, 1), (1, 2), (2, 3), (3, 4), (2, 5))
        self.assertEqual(walk_lengths(house, ((0, 2), (0, 1, 0, 0, 0))), [(0, 0), (1, 2)])
        self.assertEqual(walk_lengths(house, ((0, 4), (0, 1, 0, 0, 0))), [(0, 0), (3, 3)])

    def test_long_walk(self):
        house = row_house(30)
        self.assertEqual(walk_lengths(house, ((0, 29), (0, 1) + (0,) * 27)), [(0, 0), (27, 27)])
        self.assertEqual(walk_lengths(house, ((0, 9), (0, 1) + (0,) * 27)), [(0, 0), (7, 20)])

    def test_result_is_a_list_of_tuples(self):
        lengths = walk_lengths(STAR4, ((1, 2, 3), (0, 1, 2)))
        self.assertEqual(lengths, [(0, 0), (0, 0), (0, 0)])
        self.assertIsInstance(lengths, list)

    def test_all_walks(self):
        for house, people in SMALL + ((FORK5, 2), (((4, 1), (0, 2), (2, 4), (3, 4)), 2)):
            for state in all_states(house, people):
                lengths = walk_lengths(house, state)
                self.assertEqual(lengths is not None, is_apart(house, state))
                for person in range(people if lengths is not None else 0):
                    ends = [len(plan) for plan, after in walks_by_definition(house, state, person)
                            if all(move[0] != person for move in moves_by_definition(house, after))]
                    self.assertEqual(lengths[person], (min(ends), max(ends)))

    def test_errors_in_order(self):
        self.assert_error(InvalidHouse, {"reason": ("shape",)}, walk_lengths, None, None)
        self.assert_error(InvalidState, {"reason": ("barred", 1)}, walk_lengths, ROW3, ((0,), (0, True)))


class TestSizes(unittest.TestCase):

    def test_largest_houses(self):
        for house in (row_house(30), star_house(30)):
            state = ((0, 5, 10, 15, 20, 29), tuple(door % 6 for door in range(29)))
            self.assertEqual(region(house, state, 5), region_by_definition(house, state, 5))
            self.assertIs(is_apart(house, state), False)
            self.assertIsNone(walk_lengths(house, state))

    def test_longest_walk(self):
        house = row_house(30)
        state = ((0, 0), (1,) * 29)
        self.assertEqual(walk_to(house, state, 0, 29), [(0, room, room + 1) for room in range(29)])
        self.assertEqual(region(house, state, 0), list(range(30)))


if __name__ == "__main__":
    unittest.main()
