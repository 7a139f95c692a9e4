"""Promises [30] to [33], with [5] and [6]: states and plans."""

import random
import unittest

from lastthrough.errors import InvalidCount, InvalidHouse, InvalidPlan, InvalidState, MoveBlocked
from lastthrough.states import check_plan, check_state, play, possible_moves
from tests.helpers import (
    BAD_HOUSES, FORK5, HUGE, NOT_WHOLE, ROW3, STAR4, ErrorCase, moves_by_definition, playable_plan, random_house,
    random_plan, random_state, row_house, sample_states, star_house, state_after, swing_plan)


class TestCheckState(ErrorCase):

    def test_states(self):
        for house, state in sample_states():
            self.assertIsNone(check_state(house, state))

    def test_one_room_and_one_person(self):
        self.assertIsNone(check_state((), ((0,), ())))
        self.assertIsNone(check_state((), ((0, 0, 0), ())))
        self.assertIsNone(check_state(ROW3, ((2,), (0, 0))))

    def test_several_people_in_one_room(self):
        self.assertIsNone(check_state(ROW3, ((1, 1, 1), (0, 2))))

    def test_door_that_bars_somebody_elsewhere(self):
        self.assertIsNone(check_state(ROW3, ((0, 2), (1, 0))))

    def test_not_two_tuples(self):
        wrong = NOT_WHOLE + (0, 1, HUGE, [(0,), (0, 0)], ((0,),), ((0,), (0, 0), ()), "state")
        for value in wrong:
            with self.subTest(value=value):
                self.assertEqual(check_state(ROW3, value), ("shape",))

    def test_parts_are_not_tuples(self):
        for part in (None, True, 0, 1.0, "00", [0, 0], {0: 0, 1: 1}):
            with self.subTest(part=part):
                self.assertEqual(check_state(ROW3, (part, (0, 0))), ("shape",))
                self.assertEqual(check_state(ROW3, ((0, 0), part)), ("shape",))
                self.assertEqual(check_state(ROW3, (part, part)), ("shape",))

    def test_no_people(self):
        self.assertEqual(check_state(ROW3, ((), (0, 0))), ("shape",))
        self.assertEqual(check_state((), ((), ())), ("shape",))

    def test_not_as_long_as_the_house(self):
        for barred in ((), (0,), (0, 0, 0)):
            self.assertEqual(check_state(ROW3, ((0, 1), barred)), ("shape",))
        self.assertEqual(check_state((), ((0,), (0,))), ("shape",))

    def test_not_a_room(self):
        for room in NOT_WHOLE + (-1, 3, HUGE, -HUGE):
            with self.subTest(room=room):
                self.assertEqual(check_state(ROW3, ((room, 0), (0, 0))), ("room", 0))
                self.assertEqual(check_state(ROW3, ((0, 2, room), (0, 0))), ("room", 2))

    def test_not_a_person(self):
        for person in NOT_WHOLE + (-1, 2, HUGE, -HUGE):
            with self.subTest(person=person):
                self.assertEqual(check_state(ROW3, ((0, 1), (person, 0))), ("barred", 0))
                self.assertEqual(check_state(ROW3, ((0, 1), (1, person))), ("barred", 1))

    def test_persons_up_to_the_number_of_people(self):
        self.assertIsNone(check_state(ROW3, ((0, 0, 0), (2, 2))))
        self.assertEqual(check_state(ROW3, ((0, 0, 0), (2, 3))), ("barred", 1))
        self.assertEqual(check_state(ROW3, ((0,), (1, 0))), ("barred", 0))

    def test_two_faults_at_once(self):
        self.assertEqual(check_state(ROW3, ((9,), (9,))), ("shape",))
        self.assertEqual(check_state(ROW3, ((9, 9), [9, 9])), ("shape",))
        self.assertEqual(check_state(ROW3, ((0, 9), (9, 9))), ("room", 1))
        self.assertEqual(check_state(ROW3, ((0, True, 9), (0, 0))), ("room", 1))
        self.assertEqual(check_state(ROW3, ((0, 1), (0, 2))), ("barred", 1))
        self.assertEqual(check_state(ROW3, ((0, 1), (False, 2))), ("barred", 0))

    def test_invalid_house(self):
        for house, reason in BAD_HOUSES:
            self.assert_error(InvalidHouse, {"reason": reason}, check_state, house, ((0,), (0, 0)))
            self.assert_error(InvalidHouse, {"reason": reason}, check_state, house, None)

    def test_largest_states(self):
        house = row_house(1000)
        rooms = tuple(range(1000))
        barred = tuple(range(999, 0, -1))
        self.assertIsNone(check_state(house, (rooms, barred)))
        self.assertEqual(check_state(house, (rooms[:-1] + (1000,), barred)), ("room", 999))
        self.assertEqual(check_state(house, (rooms, barred[:-1] + (1000,))), ("barred", 998))


class TestCheckPlan(ErrorCase):

    def test_plans(self):
        rng = random.Random(13)
        for house, state in sample_states():
            people = len(state[0])
            plan = random_plan(rng, house, people, 20) if house else []
            self.assertIsNone(check_plan(house, people, plan))

    def test_empty_plan(self):
        self.assertIsNone(check_plan((), 1, []))
        self.assertIsNone(check_plan(ROW3, 5, []))

    def test_ends_in_either_order(self):
        for start, end in ((0, 1), (1, 0), (1, 2), (2, 1)):
            self.assertIsNone(check_plan(ROW3, 1, [(0, start, end)]))

    def test_not_a_list(self):
        for value in NOT_WHOLE + (0, ((0, 0, 1),), "plan", {0: (0, 0, 1)}):
            if not isinstance(value, list):
                with self.subTest(value=value):
                    self.assertEqual(check_plan(ROW3, 2, value), ("plan",))

    def test_not_a_move(self):
        wrong = NOT_WHOLE + (0, HUGE, [0, 0, 1], (0, 0), (0, 0, 1, 1), (0, (0, 1)), "001", ((0, 0, 1),))
        for move in wrong:
            with self.subTest(move=move):
                self.assertEqual(check_plan(ROW3, 2, [move]), ("move", 0))
                self.assertEqual(check_plan(ROW3, 2, [(1, 2, 1), (0, 0, 1), move]), ("move", 2))

    def test_not_a_person(self):
        for person in NOT_WHOLE + (-1, 2, HUGE, -HUGE):
            with self.subTest(person=person):
                self.assertEqual(check_plan(ROW3, 2, [(0, 0, 1), (person, 0, 1)]), ("move", 1))

    def test_not_the_ends_of_a_door(self):
        for end in NOT_WHOLE + (0, 2, 3, -1, HUGE, -HUGE):
            with self.subTest(end=end):
                self.assertEqual(check_plan(ROW3, 2, [(0, 0, end)]), ("move", 0))
                self.assertEqual(check_plan(ROW3, 2, [(0, end, 0)]), ("move", 0))
        self.assertEqual(check_plan((), 2, [(0, 0, 0)]), ("move", 0))

    def test_booleans_are_not_rooms(self):
        self.assertEqual(check_plan(ROW3, 2, [(0, 0, True)]), ("move", 0))
        self.assertEqual(check_plan(ROW3, 2, [(0, False, 1)]), ("move", 0))
        self.assertEqual(check_plan(ROW3, 2, [(False, 0, 1)]), ("move", 0))

    def test_first_of_several_moves(self):
        self.assertEqual(check_plan(ROW3, 2, [(0, 0, 1), (2, 0, 1), [0]]), ("move", 1))

    def test_any_number_of_people(self):
        self.assertIsNone(check_plan(ROW3, HUGE, [(HUGE - 1, 0, 1)]))
        self.assertEqual(check_plan(ROW3, HUGE, [(HUGE, 0, 1)]), ("move", 0))

    def test_invalid_house(self):
        for house, reason in BAD_HOUSES:
            self.assert_error(InvalidHouse, {"reason": reason}, check_plan, house, 2, [])
            self.assert_error(InvalidHouse, {"reason": reason}, check_plan, house, 0, None)

    def test_invalid_count(self):
        for people in NOT_WHOLE + (0, -1, -HUGE):
            self.assert_error(InvalidCount, {}, check_plan, ROW3, people, [])
            self.assert_error(InvalidCount, {}, check_plan, ROW3, people, None)

    def test_largest_plans(self):
        house = random_house(random.Random(17), 1000)
        plan = random_plan(random.Random(19), house, 1000, 20000)
        self.assertIsNone(check_plan(house, 1000, plan))
        self.assertEqual(check_plan(house, 1000, plan[:-1] + [(0, 0, 0)]), ("move", 19999))
        self.assertEqual(check_plan(house, 1000, plan[:-1] + [(1000, *house[0])]), ("move", 19999))


class TestPossibleMoves(ErrorCase):

    def test_people_in_one_room(self):
        moves = possible_moves(STAR4, ((0, 0, 2), (0, 1, 2)))
        self.assertEqual(moves, [(0, 0, 2), (0, 0, 3), (1, 0, 1), (1, 0, 3), (2, 2, 0)])

    def test_moves_by_definition(self):
        for house, state in sample_states():
            with self.subTest(house=house, state=state):
                self.assertEqual(possible_moves(house, state), moves_by_definition(house, state))

    def test_no_moves(self):
        self.assertEqual(possible_moves((), ((0, 0), ())), [])
        self.assertEqual(possible_moves(ROW3, ((1,), (0, 0))), [])
        self.assertEqual(possible_moves(STAR4, ((1, 2, 3), (0, 1, 2))), [])

    def test_door_that_bars_somebody_elsewhere(self):
        self.assertEqual(possible_moves(FORK5, ((0, 4), (1, 0, 0, 0))), [(0, 0, 1), (1, 4, 2)])

    def test_invalid_house(self):
        for house, reason in BAD_HOUSES:
            self.assert_error(InvalidHouse, {"reason": reason}, possible_moves, house, ((0,), (0, 0)))
            self.assert_error(InvalidHouse, {"reason": reason}, possible_moves, house, None)

    def test_invalid_state(self):
        self.assert_error(InvalidState, {"reason": ("shape",)}, possible_moves, ROW3, [(0,), (0, 0)])
        self.assert_error(InvalidState, {"reason": ("room", 0)}, possible_moves, ROW3, ((3,), (1, 1)))
        self.assert_error(InvalidState, {"reason": ("barred", 1)}, possible_moves, ROW3, ((2,), (0, 1)))


class TestPlay(ErrorCase):

    def test_empty_plan(self):
        for house, state in sample_states():
            self.assertEqual(play(house, state, []), state)

    def test_each_possible_move(self):
        for house, state in sample_states():
            for move in moves_by_definition(house, state):
                self.assertEqual(play(house, state, [move]), state_after(house, state, move))

    def test_plans(self):
        rng = random.Random(23)
        for house, state in sample_states():
            plan, after = playable_plan(rng, house, state, 12)
            self.assertEqual(play(house, state, plan), after)

    def test_result_is_tuples(self):
        rooms, barred = play(ROW3, ((0, 2), (1, 0)), [(0, 0, 1)])
        self.assertIsInstance(rooms, tuple)
        self.assertIsInstance(barred, tuple)

    def test_door_bars_until_somebody_else_used_it(self):
        start = ((0, 0), (1, 1))
        self.assertEqual(play(ROW3, start, [(0, 0, 1), (1, 0, 1), (0, 1, 0)]), ((0, 1), (0, 1)))
        error = {"index": 1, "reason": ("barred",)}
        self.assert_error(MoveBlocked, error, play, ROW3, start, [(0, 0, 1), (0, 1, 0), (1, 0, 1)])

    def test_away(self):
        start = ((0, 2), (1, 0))
        self.assert_error(MoveBlocked, {"index": 0, "reason": ("away",)}, play, ROW3, start, [(0, 1, 0)])
        self.assert_error(
            MoveBlocked, {"index": 2, "reason": ("away",)}, play, ROW3, start, [(0, 0, 1), (1, 2, 1), (0, 0, 1)])

    def test_away_before_barred(self):
        self.assert_error(
            MoveBlocked, {"index": 0, "reason": ("away",)}, play, ROW3, ((0, 2), (1, 0)), [(0, 1, 2)])
        self.assert_error(
            MoveBlocked, {"index": 0, "reason": ("away",)}, play, ROW3, ((0, 2), (0, 0)), [(0, 2, 1)])

    def test_barred(self):
        self.assert_error(
            MoveBlocked, {"index": 0, "reason": ("barred",)}, play, ROW3, ((0, 2), (0, 0)), [(0, 0, 1), (0, 2, 1)])

    def test_one_person_is_always_barred(self):
        self.assertEqual(play(ROW3, ((1,), (0, 0)), []), ((1,), (0, 0)))
        self.assert_error(
            MoveBlocked, {"index": 0, "reason": ("barred",)}, play, ROW3, ((1,), (0, 0)), [(0, 1, 2)])

    def test_first_move_that_is_not_possible(self):
        rng = random.Random(29)
        for house, state in sample_states():
            plan = random_plan(rng, house, len(state[0]), 4) if house else []
            here = state
            for index, move in enumerate(plan):
                if move not in moves_by_definition(house, here):
                    reason = ("barred",) if here[0][move[0]] == move[1] else ("away",)
                    self.assert_error(MoveBlocked, {"index": index, "reason": reason}, play, house, state, plan)
                    break
                here = state_after(house, here, move)
            else:
                self.assertEqual(play(house, state, plan), here)

    def test_invalid_house(self):
        for house, reason in BAD_HOUSES:
            self.assert_error(InvalidHouse, {"reason": reason}, play, house, ((0,), (0, 0)), [])
            self.assert_error(InvalidHouse, {"reason": reason}, play, house, None, None)

    def test_invalid_state(self):
        self.assert_error(InvalidState, {"reason": ("shape",)}, play, ROW3, None, None)
        self.assert_error(InvalidState, {"reason": ("room", 1)}, play, ROW3, ((0, 3), (0, 0)), None)
        self.assert_error(InvalidState, {"reason": ("barred", 0)}, play, ROW3, ((0,), (1, 0)), [(9, 9, 9)])

    def test_invalid_plan(self):
        start = ((0, 2), (1, 0))
        self.assert_error(InvalidPlan, {"reason": ("plan",)}, play, ROW3, start, ((0, 0, 1),))
        self.assert_error(InvalidPlan, {"reason": ("move", 0)}, play, ROW3, start, [(2, 0, 1)])
        self.assert_error(InvalidPlan, {"reason": ("move", 1)}, play, ROW3, start, [(0, 0, 1), [1, 2, 1]])

    def test_invalid_plan_before_blocked_move(self):
        self.assert_error(
            InvalidPlan, {"reason": ("move", 1)}, play, ROW3, ((0, 2), (1, 0)), [(0, 1, 2), (0, 0, 2)])

    def test_largest_plans(self):
        plan = swing_plan(20000)
        state = ((0,) * 6, (5,) * 29)
        self.assertEqual(play(row_house(30), state, plan[:2000]), ((0,) * 6, (1,) + (5,) * 28))
        self.assertEqual(play(star_house(30), state, plan[:1999]), ((0, 1) + (0,) * 4, (0,) + (5,) * 28))
        rng = random.Random(31)
        house = random_house(rng, 30)
        start = random_state(rng, house, 6)
        plan, after = playable_plan(rng, house, start, 200)
        self.assertEqual(play(house, start, plan), after)


if __name__ == "__main__":
    unittest.main()
