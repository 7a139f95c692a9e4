"""Promise [1]: the modules together answer the questions of the overview."""

import random
import unittest

from lastthrough.counting import count_following, count_states
from lastthrough.effects import check_comparison, compare_plans, count_playable, plan_effect
from lastthrough.encounters import all_encounters
from lastthrough.meetings import check_first_meeting, check_gathering, first_meeting, gather
from lastthrough.openings import check_openings, fewest_openings
from lastthrough.orders import count_rearrangements, normal_form
from lastthrough.origins import explained_doors, previous_at, previous_index
from lastthrough.pairs import can_follow, can_meet, kept_bits, pair_distance, state_of_bits
from lastthrough.reach import check_reach, find_plan
from lastthrough.regions import is_apart, region, walk_to
from lastthrough.rounds import check_meeting_round, check_schedule, first_meeting_round, play_rounds, schedule_of
from lastthrough.search import shortest_plan
from lastthrough.sessions import Session
from lastthrough.states import check_plan, play, possible_moves
from lastthrough.walks import count_plans, plan_at
from tests.helpers import (
    FORK5, ROW3, STAR4, all_states, comb_house, large_plans, random_house, random_state, row_apart, row_house,
    sample_states, star_house, swing_plan)


class TestMeetings(unittest.TestCase):

    def test_all_gather_or_nobody_ever_meets(self):
        for house, state in sample_states():
            people = len(state[0])
            meeting = first_meeting(house, state)
            in_rounds = first_meeting_round(house, state)
            found = [gather(house, state, room) for room in range(len(house) + 1)]
            self.assertEqual(meeting is None, is_apart(house, state))
            self.assertEqual(in_rounds is None, is_apart(house, state))
            for room, (word, told) in enumerate(found):
                self.assertIsNone(check_gathering(house, state, room, (word, told)))
                if meeting is not None:
                    self.assertEqual(word, "plan")
                    self.assertEqual(play(house, state, told)[0], (room,) * people)
                    self.assertGreaterEqual(len(told), meeting[0] if state[0] != (room,) * people else 0)
                elif people > 1:
                    self.assertEqual(told, [region(house, state, person) for person in range(people)])
            if meeting is not None:
                # Rounds of a shortest plan are enough, and no round has more moves than people.
                self.assertLessEqual(in_rounds[0], len(schedule_of(house, people, meeting[1])))
                self.assertLessEqual(meeting[0], 2 * in_rounds[0])

    def test_opened_doors(self):
        for house, state in sample_states():
            found = fewest_openings(house, state)
            if found is not None:
                rooms, barred = state
                changes = dict(found[1])
                opened = (rooms, tuple(changes.get(door, who) for door, who in enumerate(barred)))
                self.assertEqual(fewest_openings(house, opened), (0, []))
                number, plan = first_meeting(house, opened)
                self.assertIsNone(check_first_meeting(house, opened, (number, plan)))
                self.assertEqual(gather(house, opened, 0)[0], "plan")
                self.assertIsNone(check_openings(house, state, found))
                self.assertEqual(check_openings(house, opened, found), ("same", found[1][0][0]) if changes else None)

    def test_encounters_are_walks(self):
        for house, state in sample_states():
            for encounter in all_encounters(house, state):
                if not encounter.changes:
                    ends = [walk_to(house, state, person, (steps[-1][2] if steps else state[0][person]))
                            for person, steps in zip(encounter.people, encounter.steps)]
                    self.assertEqual([len(walk) for walk in ends], [len(steps) for steps in encounter.steps])


class TestReach(unittest.TestCase):

    def test_plans_between_states(self):
        for house, people in ((ROW3, 2), (((1, 0),), 3), (STAR4, 2), (ROW3, 3)):
            states = all_states(house, people)
            step = 1 + len(states) // 40
            for start in states[::step]:
                for target in states[1::step]:
                    word, told = find_plan(house, start, target)
                    shortest = shortest_plan(house, start, target)
                    self.assertEqual(word == "never", shortest is None)
                    self.assertIsNone(check_reach(house, start, target, (word, told)))
                    if shortest is not None:
                        self.assertLessEqual(len(shortest), len(told))
                        self.assertIsNone(check_reach(house, start, target, ("plan", shortest)))
                        self.assertIsNone(
                            check_reach(house, start, target, ("plan", normal_form(house, people, told))))
                        self.assertEqual(play_rounds(house, start, schedule_of(house, people, told)), target)

    def test_states_that_can_come_about(self):
        for house, people in ((ROW3, 2), (FORK5, 2), (STAR4, 2)):
            states = all_states(house, people)
            for start in states[::1 + len(states) // 100]:
                number = count_following(house, start)
                if number is not None:
                    found = [target for target in states if find_plan(house, start, target)[0] == "plan"]
                    self.assertEqual(len(found), number)
                    self.assertTrue(all(is_apart(house, target) for target in found))

    def test_used_doors_are_explained(self):
        for house, state, plan in large_plans():
            after = play(house, state, plan)
            used = [door for door, _, _ in plan_effect(house, 6, plan)[1]]
            self.assertLessEqual(set(used), set(explained_doors(house, after)))
            before = play(house, state, plan[:-1])
            self.assertEqual(previous_at(house, after, previous_index(house, after, before)), before)


class TestPairs(unittest.TestCase):

    def test_pairs_of_rooms(self):
        rng = random.Random(269)
        for house in (ROW3, FORK5, comb_house(9), random_house(rng, 12), row_house(30)):
            state = random_state(rng, house, 2)
            bits = kept_bits(house, state)
            for _ in range(20):
                a, b = rng.randrange(len(house) + 1), rng.randrange(len(house) + 1)
                target = state_of_bits(house, bits, a, b)
                self.assertEqual(can_meet(house, bits, a, b), first_meeting(house, target) is not None)
                met = state_of_bits(house, bits, 0, 0)
                self.assertEqual(can_follow(house, bits, a, b), find_plan(house, met, target)[0] == "plan")
                plan = shortest_plan(house, state, target)
                self.assertEqual(None if plan is None else len(plan), pair_distance(house, state, target))
                self.assertEqual(plan is None, find_plan(house, state, target)[0] == "never")


class TestPlans(unittest.TestCase):

    def test_all_plans_of_a_length(self):
        house, state, length = FORK5, ((1, 3), (1, 1, 0, 0)), 8
        count = count_plans(house, state, length)
        plans = [plan_at(house, state, length, index) for index in range(count)]
        self.assertEqual(count, 61)
        self.assertEqual(count_plans(house, state, 1), len(possible_moves(house, state)))
        forms = [normal_form(house, 2, plan) for plan in plans]
        for plan, form in zip(plans, forms):
            # All rearrangements can be played, too, so that they are among these plans.
            self.assertEqual(forms.count(form), count_rearrangements(house, 2, plan))
            self.assertIn(form, plans)
            self.assertGreater(count_playable(house, 2, plan), 0)
            session = Session(house, state)
            self.assertEqual(session.play(plan), play(house, state, plan))
        for plan in plans[::7]:
            for other in plans[::5]:
                told = compare_plans(house, 2, plan, other)
                self.assertIsNone(check_comparison(house, 2, plan, other, told))
                self.assertEqual(told == ("same",), plan_effect(house, 2, plan) == plan_effect(house, 2, other))
                if normal_form(house, 2, plan) == normal_form(house, 2, other):
                    self.assertEqual(told, ("same",))

    def test_plans_apart(self):
        house, state = row_apart(6)
        self.assertIsNone(first_meeting(house, state))
        self.assertEqual(fewest_openings(house, state)[0], 1)
        plan = plan_at(house, state, 18, count_plans(house, state, 18) - 1)
        self.assertEqual(plan, [move for move in sorted(plan, key=lambda move: -move[0])])
        schedule = schedule_of(house, 6, plan)
        self.assertEqual([len(moves) for moves in schedule], [6, 6, 6])
        after = play_rounds(house, state, schedule)
        self.assertEqual((count_following(house, state), count_following(house, after)), (4 ** 6, 1))
        self.assertEqual(count_plans(house, after, 0), 1)
        self.assertEqual(possible_moves(house, after), [])

    def test_plans_longer_than_the_limits(self):
        rng = random.Random(271)
        for house in (row_house(30), star_house(30), comb_house(30), random_house(rng, 30)):
            state = ((0,) * 6, tuple(rng.randrange(6) for _ in house))
            session = Session(house, state)
            while len(session) < 5000:
                session.play(gather(house, session.state(), rng.randrange(30))[1])
            plan = session.moves()
            self.assertIsNone(check_plan(house, 6, plan))
            self.assertEqual(play(house, state, plan), session.state())
            self.assertIsNone(check_reach(house, state, session.state(), ("plan", plan)))
            self.assertIsNone(check_gathering(house, state, session.state()[0][0], ("plan", plan)))
            form = normal_form(house, 6, plan)
            self.assertEqual(compare_plans(house, 6, plan, form), ("same",))
            self.assertEqual(play(house, state, form), session.state())
            schedule = schedule_of(house, 6, form)
            self.assertIsNone(check_schedule(house, 6, schedule))
            self.assertEqual(schedule, schedule_of(house, 6, plan))
            self.assertEqual(play_rounds(house, state, schedule), session.state())
            self.assertIsNotNone(check_meeting_round(house, state, (len(schedule), schedule)))
            walks, uses = plan_effect(house, 6, plan)
            self.assertEqual(tuple(last for _, _, last in walks), session.state()[0])
            self.assertEqual(tuple(last for _, _, last in uses), session.state()[1])
            self.assertLess(count_playable(house, 6, plan), count_states(house, 6))
            told = compare_plans(house, 6, plan, plan[1:])
            self.assertIsNone(check_comparison(house, 6, plan, plan[1:], told))

    def test_longest_session(self):
        house = row_house(30)
        state = ((0,) * 6, (1,) * 29)
        session = Session(house, state)
        session.play(swing_plan(20000))
        plan = session.moves()
        self.assertEqual(len(session), 20000)
        self.assertEqual(Session(house, state).play(normal_form(house, 6, plan)), session.state())
        self.assertEqual(play_rounds(house, state, schedule_of(house, 6, plan)), session.state())
        self.assertIsNone(check_reach(house, state, session.state(), ("plan", plan)))
        self.assertEqual(find_plan(house, state, session.state()), ("plan", []))


if __name__ == "__main__":
    unittest.main()
