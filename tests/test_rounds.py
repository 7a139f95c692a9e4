"""Promises [97] to [101]: rounds."""

import random
import unittest

from lastthrough.errors import InvalidCount, InvalidHouse, InvalidSchedule, InvalidState, MoveBlocked
from lastthrough.meetings import first_meeting
from lastthrough.orders import normal_form
from lastthrough.regions import is_apart
from lastthrough.rounds import (
    check_meeting_round, check_schedule, first_meeting_round, play_rounds, schedule_of)
from lastthrough.states import play
from tests.helpers import (
    BAD_HOUSES, FORK5, HUGE, NOT_WHOLE, ROW3, STAR4, ErrorCase, all_states, can_be_exchanged, comb_house,
    large_plans, moves_by_definition, path_by_definition, playable_plan, quick, random_house, random_plan,
    random_state, rearrangements, region_by_definition, row_apart, row_house, sample_states, star_house, state_after,
    swing_plan)

SMALL = (
    ((), 1), ((), 2), (((1, 0),), 1), (((1, 0),), 3), (ROW3, 2), (ROW3, 3), (STAR4, 2), (STAR4, 3),
    (row_house(4), 3), (row_house(5), 2), (FORK5, 2))

MEETING = ((0, 2), (1, 0))
APART = ((0, 2), (0, 1))
STAR_APART = ((1, 2, 3), (0, 1, 2))

# No rounds for three people in STAR4.
NO_ROUNDS = (
    None, True, 0, 1.0, "round", b"", (), {}, ((0, 0, 1),), {(0, 0, 1): 0}, [], [None], [0], [[0, 0, 1]], [()],
    [(0, 0)], [(0, 0, 1, 1)], [(0, 0, 0)], [(0, 1, 2)], [(3, 0, 1)], [(-1, 0, 1)], [(0, -1, 0)], [(0, 0, 4)],
    [(False, 0, 1)], [(0, False, 1)], [(0, 0, True)], [(0, 0, 1.0)], [(0, 0, "1")], [(HUGE, 0, 1)], [(0, 0, HUGE)],
    [([], 0, 1)], [(0, {}, 1)],
    # One person or one door twice, not ascending, and wrong in a later place.
    [(0, 0, 1), (0, 0, 1)], [(0, 0, 1), (0, 0, 2)], [(0, 0, 1), (0, 1, 0)], [(0, 0, 1), (1, 0, 1)],
    [(0, 0, 1), (1, 1, 0)], [(1, 0, 1), (0, 0, 2)], [(0, 0, 1), (2, 0, 2), (1, 0, 3)],
    [(0, 0, 1), (1, 0, 2), (2, 0, 1)], [(0, 0, 1), (1, 0, 2), (1, 0, 3)], [(0, 0, 1), None],
    [(0, 0, 1), (1, 0, 2), (2, 1, 2)])

NO_SCHEDULES = (None, True, False, 0, 1, 1.0, "", "schedule", b"", (), ([(0, 0, 1)],), {}, {0: []})


def rounds_of_state(house, state):
    """All rounds that are possible in the state."""
    found = [[]]
    for move in moves_by_definition(house, state):
        found.extend([*moves, move] for moves in list(found)
                     if all(can_be_exchanged(move, other) for other in moves))
    return found[1:]


def meeting_rounds(house, state):
    """The fewest rounds after which two people are in one room, from a search through all rounds, or None."""
    seen = {state}
    newest = [state]
    number = 0
    while newest:
        if any(len(set(rooms)) < len(rooms) for rooms, _ in newest):
            return number
        found = []
        for here in newest:
            for moves in rounds_of_state(house, here):
                after = here
                for move in moves:
                    after = state_after(house, after, move)
                if after not in seen:
                    seen.add(after)
                    found.append(after)
        newest = found
        number += 1
    return None


def meeting_rounds_by_rooms(house, state):
    """The smallest one, over all pairs of people and rooms of both regions, of their greater distances."""
    rooms = state[0]
    regions = [set(region_by_definition(house, state, person)) for person in range(len(rooms))]
    return min((max(len(path_by_definition(house, rooms[p], room)), len(path_by_definition(house, rooms[q], room)))
                for p in range(len(rooms)) for q in range(p) for room in regions[p] & regions[q]), default=None)


def earliest_rounds(plan):
    """The number of the round of each move, from the document's words."""
    numbers = []
    for at, move in enumerate(plan):
        earlier = [numbers[before] for before in range(at) if not can_be_exchanged(move, plan[before])]
        numbers.append(max(earlier) + 1 if earlier else 0)
    return numbers


class TestCheckSchedule(ErrorCase):

    def test_schedules(self):
        for value in ([], [[(0, 0, 1)]], [[(0, 0, 1), (1, 0, 2), (2, 0, 3)]], [[(0, 1, 0)], [(0, 1, 0)]],
                      [[(1, 0, 1), (2, 3, 0)], [(0, 0, 1)], [(0, 1, 0), (2, 2, 0)]]):
            self.assertIsNone(check_schedule(STAR4, 3, value))
        self.assertIsNone(check_schedule((), 1, []))
        self.assertIsNone(check_schedule(ROW3, 1, [[(0, 0, 1)], [(0, 0, 1)]]))

    def test_no_lists(self):
        for value in NO_SCHEDULES:
            self.assertEqual(check_schedule(ROW3, 2, value), ("schedule",))
            self.assertEqual(check_schedule((), 1, value), ("schedule",))

    def test_no_rounds(self):
        self.assertEqual(check_schedule(ROW3, 2, [[(0, 0, 1)], []]), ("round", 1))
        good = [(0, 0, 1), (1, 0, 2)]
        for moves in NO_ROUNDS:
            with self.subTest(moves=moves):
                self.assertEqual(check_schedule(STAR4, 3, [moves]), ("round", 0))
                self.assertEqual(check_schedule(STAR4, 3, [good, good, moves, good]), ("round", 2))
                self.assertEqual(check_schedule(STAR4, 3, [good, moves, None]), ("round", 1))
        self.assertEqual(check_schedule((), 2, [[(0, 0, 1)]]), ("round", 0))
        self.assertEqual(check_schedule(STAR4, 2, [good, [(2, 0, 1)]]), ("round", 1))

    def test_largest(self):
        house = row_house(1000)
        there = [(room, room, room + 1) for room in range(999)]
        back = [(room, room, room - 1) for room in range(1, 1000)]
        schedule = [there, back] * 10
        self.assertIsNone(quick(check_schedule, house, 1000, schedule))
        one_by_one = [[move] for moves in schedule for move in moves]
        self.assertIsNone(quick(check_schedule, house, 1000, one_by_one))
        self.assertEqual(quick(check_schedule, house, 999, one_by_one), ("round", 999 + 998))
        self.assertEqual(quick(check_schedule, house, 1000, schedule + [[(0, 0, 1), (1, 1, 0)]]), ("round", 20))
        star = star_house(1000)
        self.assertIsNone(quick(check_schedule, star, 1000, [[(room - 1, 0, room) for room in range(1, 1000)]] * 20))

    def test_errors_in_order(self):
        for house, reason in BAD_HOUSES:
            for people in (2, 0, None):
                self.assert_error(InvalidHouse, {"reason": reason}, check_schedule, house, people, None)
        for people in NOT_WHOLE + (0, -1, -HUGE, 2.0, "2"):
            for value in ([], None, [[]]):
                self.assert_error(InvalidCount, {}, check_schedule, ROW3, people, value)


class TestPlayRounds(ErrorCase):

    def test_row(self):
        self.assertEqual(play_rounds(ROW3, MEETING, [[(0, 0, 1), (1, 2, 1)]]), ((1, 1), (0, 1)))
        self.assertEqual(play_rounds(ROW3, MEETING, [[(0, 0, 1), (1, 2, 1)], [(1, 1, 0)]]), ((1, 0), (1, 1)))

    def test_empty_schedule(self):
        for house, state in sample_states():
            self.assertEqual(play_rounds(house, state, []), state)

    def test_changing_places_at_the_same_time(self):
        house = row_house(4)
        state = ((1, 2), (1, 0, 0))
        self.assertEqual(play_rounds(house, state, [[(0, 1, 0), (1, 2, 1)]]), ((0, 1), (0, 1, 0)))
        self.assert_error(MoveBlocked, {"index": 0, "reason": ("barred",)}, play_rounds, house, state,
                          [[(0, 1, 2), (1, 2, 3)]])

    def test_rounds_by_chance(self):
        rng = random.Random(227)
        for house, state in sample_states():
            here = state
            schedule = []
            plan = []
            while len(schedule) < 6 and len(house) < 8 and rounds_of_state(house, here):
                schedule.append(rng.choice(rounds_of_state(house, here)))
                plan.extend(schedule[-1])
                for move in rng.sample(schedule[-1], len(schedule[-1])):
                    here = state_after(house, here, move)
            self.assertIsNone(check_schedule(house, len(state[0]), schedule))
            self.assertEqual(play_rounds(house, state, schedule), here)
            self.assertEqual(play(house, state, plan), here)

    def test_blocked(self):
        for index, reason, schedule in (
                (0, "away", [[(0, 1, 0)]]), (0, "away", [[(0, 1, 0), (1, 2, 1)]]), (0, "away", [[(1, 1, 2)]]),
                (0, "away", [[(0, 0, 1), (1, 1, 2)]]), (1, "barred", [[(0, 0, 1)], [(0, 1, 0)]]),
                (1, "barred", [[(0, 0, 1)], [(0, 1, 0), (1, 2, 1)]]),
                (1, "away", [[(0, 0, 1), (1, 2, 1)], [(0, 0, 1), (1, 1, 2)]]),
                (1, "barred", [[(0, 0, 1), (1, 2, 1)], [(0, 1, 0), (1, 2, 1)]]),
                (1, "barred", [[(0, 0, 1), (1, 2, 1)], [(1, 1, 2)]]),
                (2, "away", [[(1, 2, 1)], [(0, 0, 1)], [(1, 2, 1)], [(0, 0, 1)]]),
                (1, "away", [[(0, 0, 1)], [(0, 0, 1), (1, 2, 1)]])):
            with self.subTest(schedule=schedule):
                fields = {"index": index, "reason": (reason,)}
                self.assert_error(MoveBlocked, fields, play_rounds, ROW3, MEETING, schedule)

    def test_first_move_that_is_not_possible(self):
        state = ((0, 0, 0), (0, 1, 2))
        for reason, moves in (
                ("barred", [(0, 0, 1), (1, 2, 0)]), ("away", [(0, 3, 0), (1, 0, 2)]),
                ("barred", [(0, 0, 2), (1, 0, 1), (2, 0, 3)]), ("away", [(0, 0, 2), (1, 3, 0), (2, 0, 1)])):
            fields = {"index": 0, "reason": (reason,)}
            self.assert_error(MoveBlocked, fields, play_rounds, STAR4, state, [moves])

    def test_one_door_in_two_rounds(self):
        house = ((0, 1),)
        self.assert_error(InvalidSchedule, {"reason": ("round", 0)}, play_rounds, house, ((0, 0), (1,)),
                          [[(0, 0, 1), (1, 0, 1)]])
        self.assertEqual(play_rounds(house, ((0, 0), (1,)), [[(0, 0, 1)], [(1, 0, 1)]]), ((1, 1), (1,)))

    def test_largest(self):
        for house, state, plan in large_plans():
            schedule = quick(schedule_of, house, 6, plan)
            self.assertEqual(quick(play_rounds, house, state, schedule), play(house, state, plan))
            one_by_one = [[move] for move in plan]
            self.assertEqual(quick(play_rounds, house, state, one_by_one), play(house, state, plan))
            fields = {"index": 2000, "reason": ("barred",)}
            person, start, end = plan[-1]
            self.assert_error(MoveBlocked, fields, play_rounds, house, state, one_by_one + [[(person, end, start)]])

    def test_errors_in_order(self):
        for house, reason in BAD_HOUSES:
            self.assert_error(InvalidHouse, {"reason": reason}, play_rounds, house, None, None)
        self.assert_error(InvalidState, {"reason": ("shape",)}, play_rounds, ROW3, None, None)
        self.assert_error(InvalidState, {"reason": ("room", 1)}, play_rounds, ROW3, ((0, 3), (1, 0)), [None])
        self.assert_error(InvalidState, {"reason": ("barred", 0)}, play_rounds, ROW3, ((0, 1), (2, 0)), None)
        for value in NO_SCHEDULES:
            self.assert_error(InvalidSchedule, {"reason": ("schedule",)}, play_rounds, ROW3, MEETING, value)
        for moves in NO_ROUNDS:
            state = ((0, 0, 0), (1, 2, 0))
            self.assert_error(InvalidSchedule, {"reason": ("round", 0)}, play_rounds, STAR4, state, [moves])
            # A round that is none comes before a move that is not possible.
            schedule = [[(0, 1, 0)], moves]
            self.assert_error(InvalidSchedule, {"reason": ("round", 1)}, play_rounds, STAR4, state, schedule)
        self.assert_error(InvalidSchedule, {"reason": ("round", 0)}, play_rounds, ROW3, MEETING, [[(2, 0, 1)]])


class TestScheduleOf(ErrorCase):

    def test_row(self):
        self.assertEqual(
            schedule_of(ROW3, 2, [(1, 2, 1), (0, 0, 1), (1, 1, 0)]), [[(0, 0, 1), (1, 2, 1)], [(1, 1, 0)]])

    def test_empty_plan(self):
        for house, people in (((), 1), ((), 3), (ROW3, 2)):
            self.assertEqual(schedule_of(house, people, []), [])

    def test_one_person_or_one_door(self):
        alone = [(0, 0, 1), (0, 1, 2), (0, 0, 1)]
        self.assertEqual(schedule_of(ROW3, 1, alone), [[move] for move in alone])
        swing = swing_plan(9)
        self.assertEqual(schedule_of(ROW3, 2, swing), [[move] for move in swing])

    def test_all_at_the_same_time(self):
        plan = [(2, 3, 0), (0, 1, 0), (1, 2, 0)]
        self.assertEqual(schedule_of(STAR4, 3, plan), [[(0, 1, 0), (1, 2, 0), (2, 3, 0)]])

    def test_behind_the_later_one_of_two(self):
        # The last move comes behind the second use of the door, not only behind the person's first move.
        plan = [(1, 0, 1), (0, 0, 1), (2, 2, 1), (2, 1, 0)]
        self.assertEqual(schedule_of(ROW3, 3, plan), [[(1, 0, 1), (2, 2, 1)], [(0, 0, 1)], [(2, 1, 0)]])
        plan = [(2, 2, 1), (0, 2, 1), (0, 1, 0), (1, 3, 4), (1, 4, 3), (1, 3, 2), (1, 1, 0)]
        self.assertEqual(len(schedule_of(row_house(5), 3, plan)), 4)

    def test_against_the_definition(self):
        rng = random.Random(229)
        for house, people in ((((0, 1),), 3), (ROW3, 1), (ROW3, 3), (STAR4, 3), (FORK5, 4), (row_house(6), 6)):
            for length in (1, 2, 3, 5, 8, 13):
                for plan in (random_plan(rng, house, people, length),
                             playable_plan(rng, house, random_state(rng, house, people), length)[0]):
                    numbers = earliest_rounds(plan)
                    expected = [sorted(move for number, move in zip(numbers, plan) if number == at)
                                for at in range(len(set(numbers)))]
                    schedule = schedule_of(house, people, plan)
                    self.assertEqual(schedule, expected)
                    self.assertIsNone(check_schedule(house, people, schedule))
                    # Round by round, the moves are a rearrangement of the plan.
                    in_order = [move for moves in schedule for move in moves]
                    self.assertEqual(normal_form(house, people, in_order), normal_form(house, people, plan))

    def test_fewest_rounds(self):
        rng = random.Random(233)
        for house, people in ((ROW3, 3), (STAR4, 3), (row_house(5), 4)):
            for _ in range(6):
                plan = random_plan(rng, house, people, 6)
                fewest = 6
                for other in rearrangements(plan):
                    # Each round takes as many moves of this order as it can.
                    number = 0
                    taken = []
                    for move in other:
                        if number == 0 or not all(can_be_exchanged(move, before) for before in taken):
                            number += 1
                            taken = []
                        taken.append(move)
                    fewest = min(fewest, number)
                self.assertEqual(len(schedule_of(house, people, plan)), fewest)

    def test_same_state_as_the_plan(self):
        rng = random.Random(239)
        for house, state in sample_states():
            plan, after = playable_plan(rng, house, state, 30)
            schedule = schedule_of(house, len(state[0]), plan)
            self.assertEqual(play_rounds(house, state, schedule), after)

    def test_largest(self):
        for house, state, plan in large_plans():
            schedule = quick(schedule_of, house, 6, plan)
            self.assertIsNone(check_schedule(house, 6, schedule))
            self.assertEqual(sum(len(moves) for moves in schedule), 2000)
            self.assertEqual(len(schedule), max(earliest_rounds(plan)) + 1)
        swing = swing_plan(20000)
        self.assertEqual(quick(schedule_of, row_house(30), 6, swing), [[move] for move in swing])
        twice = [move for one in swing[:10000] for move in (one, (one[0] + 2, one[1] + 2, one[2] + 2))]
        schedule = quick(schedule_of, row_house(30), 6, twice)
        self.assertEqual(schedule, [list(moves) for moves in zip(twice[::2], twice[1::2])])

    def test_errors_in_order(self):
        self.assert_plan_errors(schedule_of)


class TestFirstMeetingRound(ErrorCase):

    def assert_meets(self, house, state, found):
        number, schedule = found
        self.assertIs(found.__class__, tuple)
        self.assertIs(number.__class__, int)
        self.assertIsNone(check_schedule(house, len(state[0]), schedule))
        self.assertEqual(len(schedule), number)
        rooms = play_rounds(house, state, schedule)[0]
        self.assertLess(len(set(rooms)), len(rooms))

    def test_row(self):
        self.assertEqual(first_meeting_round(ROW3, MEETING), (1, [[(0, 0, 1), (1, 2, 1)]]))
        self.assertEqual(first_meeting_round(ROW3, ((0, 2), (1, 1))), (2, [[(0, 0, 1)], [(0, 1, 2)]]))

    def test_in_one_room(self):
        self.assertEqual(first_meeting_round((), ((0, 0), ())), (0, []))
        self.assertEqual(first_meeting_round(FORK5, ((0, 4, 3, 4), (0, 1, 2, 3))), (0, []))

    def test_apart(self):
        self.assertIsNone(first_meeting_round(ROW3, APART))
        self.assertIsNone(first_meeting_round(STAR4, STAR_APART))

    def test_one_person(self):
        self.assertIsNone(first_meeting_round((), ((0,), ())))
        self.assertIsNone(first_meeting_round(FORK5, ((3,), (0,) * 4)))

    def test_between_two_people(self):
        for rooms, barred, number in (
                (6, (1, 1, 1, 0, 0), 3), (6, (1, 1, 0, 0, 0), 3), (6, (1, 1, 1, 1, 1), 5), (6, (1, 1, 1, 1, 0), 4),
                (5, (1, 1, 0, 0), 2), (5, (1, 0, 0, 0), 3), (5, (0, 0, 0, 0), 4), (2, (0,), 1), (2, (1,), 1)):
            state = ((0, rooms - 1), barred)
            found = first_meeting_round(row_house(rooms), state)
            self.assertEqual(found[0], number)
            self.assert_meets(row_house(rooms), state, found)

    def test_doors_open_to_both(self):
        # Each of the persons 0 and 1 could go all the way, but they meet in the middle.
        for rooms, number in ((4, 2), (5, 2), (6, 3), (20, 10)):
            house = row_house(rooms + number)
            state = ((0, rooms - 1, len(house)), (2,) * len(house))
            found = first_meeting_round(house, state)
            self.assertEqual(found[0], number)
            self.assert_meets(house, state, found)

    def test_fewer_moves_are_not_fewer_rounds(self):
        # The persons 0 and 1 need three moves of one of them, the persons 1 and 2 four moves, two of each.
        house = row_house(8)
        state = ((0, 3, 7), (1, 1, 1, 2, 2, 1, 1))
        self.assertEqual(first_meeting(house, state)[0], 3)
        found = first_meeting_round(house, state)
        self.assertEqual(found[0], 2)
        self.assert_meets(house, state, found)

    def test_against_search(self):
        for house, people in SMALL:
            states = all_states(house, people)
            for state in states[::1 + len(states) // 250]:
                found = first_meeting_round(house, state)
                with self.subTest(house=house, state=state):
                    self.assertEqual(None if found is None else found[0], meeting_rounds(house, state))
                    if found is not None:
                        self.assert_meets(house, state, found)

    def test_against_the_rooms_of_both_regions(self):
        for house, state in sample_states():
            found = first_meeting_round(house, state)
            with self.subTest(house=house, state=state):
                self.assertEqual(None if found is None else found[0], meeting_rounds_by_rooms(house, state))
                self.assertEqual(found is None, is_apart(house, state))
                if found is not None:
                    self.assert_meets(house, state, found)

    def test_largest(self):
        rng = random.Random(241)
        for house in (row_house(30), star_house(30), comb_house(30), random_house(rng, 30)):
            for _ in range(5):
                state = random_state(rng, house, 6)
                found = quick(first_meeting_round, house, state)
                self.assertEqual(None if found is None else found[0], meeting_rounds_by_rooms(house, state))
        house = row_house(30)
        for ones, number in ((29, 29), (20, 20), (15, 15), (14, 15), (0, 29)):
            state = ((0, 29), (1,) * ones + (0,) * (29 - ones))
            found = quick(first_meeting_round, house, state)
            self.assertEqual(found[0], number)
            self.assert_meets(house, state, found)
        self.assertIsNone(quick(first_meeting_round, *row_apart(6)))

    def test_errors_in_order(self):
        for house, reason in BAD_HOUSES:
            self.assert_error(InvalidHouse, {"reason": reason}, first_meeting_round, house, None)
        self.assert_error(InvalidState, {"reason": ("shape",)}, first_meeting_round, ROW3, None)
        self.assert_error(InvalidState, {"reason": ("room", 1)}, first_meeting_round, ROW3, ((0, 3), (1, 2)))
        self.assert_error(InvalidState, {"reason": ("barred", 1)}, first_meeting_round, ROW3, ((0, 2), (1, True)))


class TestCheckMeetingRound(ErrorCase):

    def test_own_results(self):
        for house, state in sample_states():
            with self.subTest(house=house, state=state):
                self.assertIsNone(check_meeting_round(house, state, first_meeting_round(house, state)))

    def test_every_best_schedule(self):
        self.assertIsNone(check_meeting_round(ROW3, ((0, 2), (1, 1)), (2, [[(0, 0, 1)], [(0, 1, 2)]])))
        state = ((1, 2, 3), (1, 2, 0))
        for schedule in ([[(0, 1, 0), (1, 2, 0)]], [[(1, 2, 0), (2, 3, 0)]], [[(0, 1, 0), (1, 2, 0), (2, 3, 0)]]):
            self.assertIsNone(check_meeting_round(STAR4, state, (1, schedule)))
        # More moves than are needed, but as few rounds.
        house = row_house(5)
        schedule = [[(0, 0, 1), (1, 4, 3)], [(0, 1, 2), (1, 3, 2)]]
        self.assertIsNone(check_meeting_round(house, ((0, 4), (1, 1, 0, 0)), (2, schedule)))

    def test_form(self):
        claims = [False, 0, 1, "schedule", [], {}, (), (1,), [1, []], (1, [], []), ([], 1), ((), []), ("1", []),
                  ("schedule", [[(0, 1, 0)]]), (1, [(0, 1, 0), (1, 2, 0)]), (None, None)]
        claims.extend((number, [[(0, 1, 0), (1, 2, 0)]]) for number in NOT_WHOLE + (-1, -HUGE, 1.0))
        claims.extend((1, schedule) for schedule in NO_SCHEDULES)
        claims.extend((1, [moves]) for moves in NO_ROUNDS)
        claims.extend((2, [[(0, 1, 0)], moves]) for moves in NO_ROUNDS)
        for claim in claims:
            with self.subTest(claim=claim):
                self.assertEqual(check_meeting_round(STAR4, ((1, 2, 3), (1, 2, 0)), claim), ("form",))
                self.assertEqual(check_meeting_round(STAR4, STAR_APART, claim), ("form",))

    def test_persons_of_the_state(self):
        schedule = [[(1, 2, 1), (2, 0, 1)]]
        self.assertEqual(check_meeting_round(ROW3, MEETING, (1, schedule)), ("form",))
        self.assertIsNone(check_meeting_round(ROW3, ((2, 2, 0), (1, 0)), (0, [])))
        self.assertEqual(check_meeting_round(ROW3, ((2, 2, 0), (1, 0)), (1, schedule)), ("number",))

    def test_apart(self):
        self.assertEqual(check_meeting_round(ROW3, MEETING, None), ("apart",))
        self.assertEqual(check_meeting_round((), ((0, 0), ()), None), ("apart",))
        self.assertEqual(check_meeting_round(ROW3, APART, (1, [[(0, 0, 1), (1, 2, 1)]])), ("apart",))
        self.assertEqual(check_meeting_round((), ((0,), ()), (0, [])), ("apart",))
        self.assertIsNone(check_meeting_round(ROW3, APART, None))
        self.assertIsNone(check_meeting_round((), ((0,), ()), None))

    def test_blocked(self):
        for index, schedule in (
                (0, [[(0, 1, 0)]]), (0, [[(0, 1, 2)], [(0, 0, 1)]]), (1, [[(0, 0, 1), (1, 2, 1)], [(0, 1, 0)]]),
                (1, [[(0, 0, 1)], [(0, 1, 0), (1, 2, 1)]]), (2, [[(0, 0, 1)], [(1, 2, 1)], [(1, 2, 1)], [(0, 0, 1)]])):
            self.assertEqual(check_meeting_round(ROW3, MEETING, (len(schedule), schedule)), ("blocked", index))

    def test_meeting(self):
        self.assertEqual(check_meeting_round(ROW3, MEETING, (0, [])), ("meeting",))
        self.assertEqual(check_meeting_round(ROW3, MEETING, (1, [[(1, 2, 1)]])), ("meeting",))
        # Two people met on the way, but are in different rooms in the end.
        schedule = [[(0, 0, 1), (1, 2, 1)], [(1, 1, 0)]]
        self.assertEqual(check_meeting_round(ROW3, MEETING, (2, schedule)), ("meeting",))
        self.assertEqual(check_meeting_round(ROW3, MEETING, (1, schedule)), ("meeting",))

    def test_number(self):
        schedule = [[(0, 0, 1), (1, 2, 1)]]
        for number in (0, 2, 3, HUGE):
            self.assertEqual(check_meeting_round(ROW3, MEETING, (number, schedule)), ("number",))
        self.assertEqual(check_meeting_round(ROW3, MEETING, (2, [[(0, 0, 1)], [(1, 2, 1)]])), ("number",))
        self.assertEqual(check_meeting_round(ROW3, MEETING, (1, [[(0, 0, 1)], [(1, 2, 1)]])), ("number",))

    def test_first_of_two_faults(self):
        self.assertEqual(check_meeting_round(ROW3, APART, (-1, [])), ("form",))
        self.assertEqual(check_meeting_round(ROW3, MEETING, (2, [[(0, 1, 2)], []])), ("form",))
        self.assertEqual(check_meeting_round(ROW3, APART, (9, [[(0, 1, 0)]])), ("apart",))
        self.assertEqual(check_meeting_round(ROW3, MEETING, (9, [[(0, 0, 1)], [(0, 1, 0)]])), ("blocked", 1))
        self.assertEqual(check_meeting_round(ROW3, MEETING, (9, [[(0, 0, 1)]])), ("meeting",))

    def test_largest(self):
        for house, state, plan in large_plans():
            self.assertIsNone(quick(check_meeting_round, house, state, first_meeting_round(house, state)))
            schedule = schedule_of(house, 6, plan)
            self.assertIsNotNone(quick(check_meeting_round, house, state, (len(schedule), schedule)))
        swing = [[move] for move in swing_plan(2000)]
        state = ((0, 0), (1,) * 29)
        self.assertEqual(quick(check_meeting_round, row_house(30), state, (2000, swing)), ("number",))

    def test_errors_in_order(self):
        for claim in (None, (0, []), "claim"):
            for house, reason in BAD_HOUSES:
                self.assert_error(InvalidHouse, {"reason": reason}, check_meeting_round, house, None, claim)
            self.assert_error(InvalidState, {"reason": ("shape",)}, check_meeting_round, ROW3, None, claim)
            state = ((0, 3), (1, 2))
            self.assert_error(InvalidState, {"reason": ("room", 1)}, check_meeting_round, ROW3, state, claim)


if __name__ == "__main__":
    unittest.main()
