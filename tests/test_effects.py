"""Promises [90] to [93]: effects of plans."""

import random
import unittest

from lastthrough.counting import count_states
from lastthrough.effects import check_comparison, compare_plans, count_playable, plan_effect
from lastthrough.errors import InvalidCount, InvalidHouse, InvalidPlan, MoveBlocked
from lastthrough.states import check_state, play
from tests.helpers import (
    BAD_HOUSES, FORK5, HUGE, NO_PLANS, NOT_WHOLE, ROW3, STAR4, ErrorCase, all_states, can_be_exchanged, large_plans,
    outcome_by_definition, playable_plan, quick, random_plan, random_state, rearranged, reason_of_plan, row_house,
    star_house, swing_plan)

SMALL = (
    (((0, 1),), 1), (((0, 1),), 2), (((1, 0),), 3), (ROW3, 1), (ROW3, 2), (ROW3, 3), (STAR4, 2),
    (((3, 1), (0, 2), (1, 2)), 2))

# Plans for three people in ROW3, in pairs whose effects differ in one way, and what differs.
DIFFERENT = (
    ("first room", [(0, 0, 1)], [(0, 2, 1)]),
    ("last room", [(0, 1, 0)], [(0, 1, 2)]),
    ("who moves", [(0, 0, 1)], [(1, 0, 1)]),
    ("somebody comes back", [(0, 0, 1), (1, 0, 1), (0, 1, 0), (1, 1, 0)], []),
    ("somebody comes back or not", [(0, 0, 1), (1, 0, 1), (0, 1, 0)], [(1, 0, 1)]),
    ("one more moves", [(0, 0, 1), (1, 2, 1)], [(0, 0, 1)]),
    ("another door", [(0, 1, 0)], [(0, 1, 2)]),
    ("first user", [(0, 0, 1), (1, 0, 1), (2, 0, 1)], [(1, 0, 1), (0, 0, 1), (2, 0, 1)]),
    ("last user", [(2, 0, 1), (0, 0, 1), (1, 0, 1)], [(2, 0, 1), (1, 0, 1), (0, 0, 1)]),
    ("first and last user", [(0, 0, 1), (1, 0, 1)], [(1, 0, 1), (0, 0, 1)]),
    ("one is contradictory", [(0, 0, 1), (0, 1, 0)], [(0, 0, 1)]),
    ("one is contradictory, the other one empty", [(0, 0, 1), (0, 0, 1)], []),
    ("a door on the way", [(0, 0, 1), (1, 0, 1), (0, 1, 0), (1, 1, 2)], [(1, 0, 1), (1, 1, 2)]),
)


def outcomes(house, people, plan):
    """What the plan leads to from each state."""
    return {state: outcome_by_definition(house, state, plan) for state in all_states(house, people)}


def effect_by_definition(house, people, plan, states):
    """The effect of a plan, from the states from which it can be played and its moves."""
    if all(outcome_by_definition(house, state, plan) is None for state in states):
        return None
    walks = []
    for person in range(people):
        own = [move for move in plan if move[0] == person]
        if own:
            walks.append((person, own[0][1], own[-1][2]))
    uses = []
    for door, ends in enumerate(house):
        users = [who for who, start, end in plan if {start, end} == set(ends)]
        if users:
            uses.append((door, users[0], users[-1]))
    return walks, uses


def some_plans(rng, house, people, many):
    """Plans by chance, some of which can be played."""
    plans = [[]]
    for _ in range(many):
        plans.append(random_plan(rng, house, people, rng.randrange(4)))
        plans.append(playable_plan(rng, house, random_state(rng, house, people), rng.randrange(1, 8))[0])
        plans.append(rearranged(rng, plans[-1], 5))
        plans.append(plans[-1] + random_plan(rng, house, people, 1))
    return plans


class TestPlanEffect(ErrorCase):

    def test_row(self):
        plan = [(1, 2, 1), (0, 0, 1), (1, 1, 0)]
        self.assertEqual(plan_effect(ROW3, 2, plan), ([(0, 0, 1), (1, 2, 0)], [(0, 0, 1), (1, 1, 1)]))

    def test_empty_plan(self):
        for house, people in (((), 1), ((), 4), (ROW3, 1), (ROW3, 6)):
            walks, uses = plan_effect(house, people, [])
            self.assertEqual((walks, uses), ([], []))
            self.assertIsNot(walks, uses)

    def test_ascending(self):
        plan = [(2, 3, 0), (1, 2, 0), (0, 1, 0)]
        self.assertEqual(
            plan_effect(STAR4, 3, plan), ([(0, 1, 0), (1, 2, 0), (2, 3, 0)], [(0, 0, 0), (1, 1, 1), (2, 2, 2)]))

    def test_person_who_comes_back(self):
        plan = [(0, 0, 1), (1, 0, 1), (0, 1, 0)]
        self.assertEqual(plan_effect(ROW3, 2, plan), ([(0, 0, 0), (1, 0, 1)], [(0, 0, 0)]))

    def test_moves_that_do_not_join(self):
        for plan in ([(0, 0, 1), (0, 0, 1)], [(0, 0, 1), (0, 2, 1)], [(0, 1, 2), (1, 0, 1), (0, 1, 0)],
                     [(0, 0, 1), (1, 0, 1), (0, 0, 1)], [(0, 1, 0), (1, 1, 2), (0, 1, 2)]):
            self.assertIsNone(plan_effect(ROW3, 2, plan))

    def test_door_used_twice_by_one_person(self):
        for plan in ([(0, 0, 1), (0, 1, 0)], [(0, 0, 1), (1, 2, 1), (0, 1, 0)], [(0, 0, 1), (0, 1, 2), (0, 2, 1)],
                     [(1, 0, 1), (0, 0, 1), (0, 1, 0)]):
            self.assertIsNone(plan_effect(ROW3, 2, plan))
        self.assertIsNotNone(plan_effect(ROW3, 2, [(0, 0, 1), (1, 0, 1), (0, 1, 0)]))

    def test_one_person(self):
        self.assertEqual(plan_effect(ROW3, 1, []), ([], []))
        for plan in ([(0, 0, 1)], [(0, 0, 1), (0, 1, 2)]):
            self.assertIsNone(plan_effect(ROW3, 1, plan))
            self.assertIsNotNone(plan_effect(ROW3, 2, plan))

    def test_against_enumeration(self):
        rng = random.Random(157)
        for house, people in SMALL:
            states = all_states(house, people)
            contradictory = []
            for plan in some_plans(rng, house, people, 12):
                with self.subTest(house=house, people=people, plan=plan):
                    effect = plan_effect(house, people, plan)
                    self.assertEqual(effect, effect_by_definition(house, people, plan, states))
                    contradictory.append(effect is None)
            self.assertEqual(set(contradictory), {True, False})

    def test_effect_tells_all_results(self):
        rng = random.Random(167)
        for house, people in SMALL:
            for plan in some_plans(rng, house, people, 4):
                effect = plan_effect(house, people, plan)
                if effect is not None:
                    walks, uses = effect
                    for (rooms, barred), after in outcomes(house, people, plan).items():
                        can = all(rooms[person] == first for person, first, _ in walks)
                        can = can and all(barred[door] != first for door, first, _ in uses)
                        self.assertEqual(after is not None, can)
                        if can:
                            last_rooms = {person: last for person, _, last in walks}
                            users = {door: last for door, _, last in uses}
                            expected = (tuple(last_rooms.get(who, room) for who, room in enumerate(rooms)),
                                        tuple(users.get(door, who) for door, who in enumerate(barred)))
                            self.assertEqual(after, expected)

    def test_largest(self):
        for house, state, plan in large_plans():
            walks, uses = quick(plan_effect, house, 6, plan)
            self.assertEqual((walks, uses), effect_by_definition(house, 6, plan, [state]))
        swing = swing_plan(20000)
        self.assertEqual(quick(plan_effect, row_house(30), 6, swing), ([(0, 0, 0), (1, 0, 0)], [(0, 0, 1)]))
        self.assertIsNone(quick(plan_effect, row_house(30), 6, swing + [(1, 0, 1)]))
        self.assertIsNone(quick(plan_effect, row_house(30), 6, swing + [(0, 1, 0)]))

    def test_errors_in_order(self):
        self.assert_plan_errors(plan_effect)


class TestComparePlans(ErrorCase):

    def assert_compares(self, house, people, first, second):
        """The result is right for all states, and the checker accepts it."""
        found = compare_plans(house, people, first, second)
        self.assertIs(found.__class__, tuple)
        ends = outcomes(house, people, first)
        other_ends = outcomes(house, people, second)
        if ends == other_ends:
            self.assertEqual(found, ("same",))
        else:
            word, state = found
            self.assertEqual(word, "different")
            self.assertIsNone(check_state(house, state))
            self.assertEqual(len(state[0]), people)
            self.assertNotEqual(ends[state], other_ends[state])
        self.assertIsNone(check_comparison(house, people, first, second, found))

    def test_same(self):
        plan = [(0, 0, 1), (1, 2, 1)]
        self.assertEqual(compare_plans(ROW3, 2, plan, plan[::-1]), ("same",))
        self.assertEqual(compare_plans(ROW3, 2, [], []), ("same",))
        # Two plans that cannot be played from any state do the same.
        self.assertEqual(compare_plans(ROW3, 2, [(0, 0, 1), (0, 0, 1)], [(1, 2, 1), (1, 1, 2)]), ("same",))
        self.assertEqual(compare_plans(ROW3, 1, [(0, 0, 1)], [(0, 1, 2), (0, 2, 1)]), ("same",))

    def test_same_though_no_rearrangement(self):
        # The second use of each door in the middle makes no difference.
        first = [(0, 0, 1), (1, 0, 1), (2, 0, 1), (1, 1, 0), (0, 1, 0), (2, 1, 0)]
        second = [(0, 0, 1), (2, 0, 1), (1, 0, 1), (0, 1, 0), (1, 1, 0), (2, 1, 0)]
        self.assertEqual(compare_plans(ROW3, 3, first, second), ("same",))
        self.assert_compares(ROW3, 3, first, second)

    def test_one_difference(self):
        for what, first, second in DIFFERENT:
            with self.subTest(what=what):
                self.assertEqual(compare_plans(ROW3, 3, first, second)[0], "different")
                self.assert_compares(ROW3, 3, first, second)
                self.assert_compares(ROW3, 3, second, first)

    def test_one_person(self):
        self.assert_compares(ROW3, 1, [], [(0, 0, 1)])
        self.assert_compares(ROW3, 1, [(0, 0, 1)], [])
        self.assert_compares(((1, 0),), 1, [(0, 0, 1)], [])
        self.assertEqual(compare_plans((), 1, [], []), ("same",))

    def test_against_enumeration(self):
        rng = random.Random(173)
        for house, people in SMALL:
            plans = some_plans(rng, house, people, 4)
            for first in plans:
                for second in rng.sample(plans, 6) + [rearranged(rng, first, 4)]:
                    with self.subTest(house=house, people=people, first=first, second=second):
                        self.assert_compares(house, people, first, second)

    def test_largest(self):
        rng = random.Random(179)
        for house, state, plan in large_plans():
            other = rearranged(rng, plan, 5000)
            self.assertEqual(quick(compare_plans, house, 6, plan, other), ("same",))
            for first, second in ((plan, plan[:-1]), (plan[1:], plan), (plan, []), (plan + plan[-1:], plan)):
                found = quick(compare_plans, house, 6, first, second)
                self.assertEqual(found[0], "different")
                ends = []
                for tried in (first, second):
                    try:
                        ends.append(play(house, found[1], tried))
                    except MoveBlocked:
                        ends.append(None)
                self.assertNotEqual(ends[0], ends[1])
                self.assertIsNone(quick(check_comparison, house, 6, first, second, found))

    def test_errors_in_order(self):
        self.assert_plan_errors(compare_plans, [])
        self.assert_plan_errors(compare_plans, None)
        for plan in NO_PLANS:
            fields = {"reason": reason_of_plan(2, plan)}
            self.assert_error(InvalidPlan, fields, compare_plans, ROW3, 2, [(0, 0, 1)], plan)
        self.assert_error(InvalidPlan, {"reason": ("move", 1)}, compare_plans, ROW3, 2, [(0, 0, 1), 5], [None])


class TestCheckComparison(ErrorCase):

    def test_every_state(self):
        for _, first, second in DIFFERENT:
            ends = outcomes(ROW3, 3, first)
            other_ends = outcomes(ROW3, 3, second)
            for state in ends:
                expected = ("state",) if ends[state] == other_ends[state] else None
                found = check_comparison(ROW3, 3, first, second, ("different", state))
                with self.subTest(first=first, second=second, state=state):
                    self.assertEqual(found, expected)

    def test_form(self):
        state = ((0, 2), (1, 0))
        claims = [None, True, 0, "same", "different", [], {}, (), ["same"], ("same", None), ("same", state),
                  ("same", ()), ("Same",), ("different",), (True,), (None,), ((),), ([],), ({},), (0,),
                  ["different", state], ("different", state, None), (state, "different"), ("other", state), (1, state),
                  ([], state), ({}, state), (None, state)]
        wrong = [None, 0, True, "", [], {}, (), ((0, 2),), [(0, 2), (1, 0)], ([0, 2], (1, 0)), ((0, 2), [1, 0]),
                 ((0, 2), (1, 0), ()), ((0, 2), (1,)), ((0, 2), (1, 0, 0)), ((0, 3), (1, 0)), ((0, -1), (1, 0)),
                 ((0, 2), (2, 0)), ((0, 2), (-1, 0)), ((0, True), (1, 0)), ((0, 2), (True, 0)), ((0, 2), (1, 0.0)),
                 ((0, 2.0), (1, 0)), ((0, "2"), (1, 0)), ((0, HUGE), (1, 0)), ((0,), (0, 0)), ((0, 1, 2), (0, 1)),
                 ((0, 2, 2), (1, 0)), ((), (0, 0))]
        claims.extend(("different", value) for value in wrong)
        for claim in claims:
            for first, second in (([(0, 0, 1)], []), ([], []), ([(0, 0, 1), (0, 0, 1)], [])):
                with self.subTest(claim=claim):
                    self.assertEqual(check_comparison(ROW3, 2, first, second, claim), ("form",))

    def test_effects(self):
        for _, first, second in DIFFERENT:
            self.assertEqual(check_comparison(ROW3, 3, first, second, ("same",)), ("effects",))
            self.assertEqual(check_comparison(ROW3, 3, second, first, ("same",)), ("effects",))
            self.assertIsNone(check_comparison(ROW3, 3, first, first, ("same",)))
            self.assertIsNone(check_comparison(ROW3, 3, second, second, ("same",)))

    def test_state(self):
        plan = [(0, 0, 1), (1, 2, 1)]
        for state in all_states(ROW3, 2):
            self.assertEqual(check_comparison(ROW3, 2, plan, plan[::-1], ("different", state)), ("state",))
        here = ((1, 1), (0, 1))
        # Only the empty plan can be played from here.
        self.assertIsNone(check_comparison(ROW3, 2, plan, [], ("different", here)))
        self.assertEqual(check_comparison(ROW3, 2, plan, plan[:1], ("different", here)), ("state",))

    def test_first_of_two_faults(self):
        plan = [(0, 0, 1), (1, 2, 1)]
        self.assertEqual(check_comparison(ROW3, 2, plan, plan, ("different", ((0,), (0, 0)))), ("form",))
        self.assertEqual(check_comparison(ROW3, 2, plan, [], ("same", ((0, 2), (1, 0)))), ("form",))

    def test_errors_in_order(self):
        for claim in (("same",), None, ("different", None)):
            self.assert_plan_errors(check_comparison, None, claim)
            self.assert_plan_errors(check_comparison, [], claim)
            for plan in NO_PLANS:
                fields = {"reason": reason_of_plan(2, plan)}
                self.assert_error(InvalidPlan, fields, check_comparison, ROW3, 2, [], plan, claim)
        self.assert_error(InvalidHouse, {"reason": BAD_HOUSES[0][1]}, check_comparison, list(ROW3), 0, 0, 0, 0)
        self.assert_error(InvalidCount, {}, check_comparison, ROW3, True, None, None, None)


class TestCountPlayable(ErrorCase):

    def test_row(self):
        self.assertEqual(count_playable(ROW3, 2, [(0, 0, 1)]), 6)
        self.assertEqual(count_playable(ROW3, 3, [(0, 0, 1)]), 9 * 2 * 3)
        self.assertEqual(count_playable(ROW3, 2, [(0, 0, 1), (0, 0, 1)]), 0)

    def test_empty_plan(self):
        for house, people in (((), 1), ((), 3), (ROW3, 1), (ROW3, 2), (FORK5, 3), (row_house(30), 6)):
            self.assertEqual(count_playable(house, people, []), count_states(house, people))

    def test_one_person(self):
        self.assertEqual(count_playable(ROW3, 1, [(0, 0, 1)]), 0)

    def test_against_enumeration(self):
        rng = random.Random(181)
        for house, people in SMALL:
            for plan in some_plans(rng, house, people, 8):
                with self.subTest(house=house, people=people, plan=plan):
                    playable = [end for end in outcomes(house, people, plan).values() if end is not None]
                    self.assertEqual(count_playable(house, people, plan), len(playable))

    def test_largest(self):
        for house, _, plan in large_plans():
            moving = len({move[0] for move in plan})
            used = len({frozenset(move[1:]) for move in plan})
            expected = 30 ** (6 - moving) * 5 ** used * 6 ** (29 - used)
            self.assertEqual(quick(count_playable, house, 6, plan), expected)
        self.assertEqual(quick(count_playable, star_house(30), 2, swing_plan(20000)), 2 ** 28)

    def test_errors_in_order(self):
        self.assert_plan_errors(count_playable)


class TestRearrangementsAndEffects(unittest.TestCase):

    def test_rearrangements_do_the_same(self):
        rng = random.Random(191)
        for house, people in SMALL:
            for plan in some_plans(rng, house, people, 5):
                for at in range(len(plan) - 1):
                    if can_be_exchanged(plan[at], plan[at + 1]):
                        other = [*plan[:at], plan[at + 1], plan[at], *plan[at + 2:]]
                        self.assertEqual(compare_plans(house, people, plan, other), ("same",))


if __name__ == "__main__":
    unittest.main()
