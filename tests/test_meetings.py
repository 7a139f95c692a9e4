"""Promises [45] to [48], with [7]: meetings."""

import random
import unittest

from lastthrough.errors import InvalidHouse, InvalidRoom, InvalidState
from lastthrough.meetings import check_first_meeting, check_gathering, first_meeting, gather
from lastthrough.regions import is_apart
from lastthrough.states import check_plan, play
from tests.helpers import (
    FORK5, HUGE, NO_PLANS, NOT_WHOLE, ROW3, STAR4, ErrorCase, all_states, comb_house, path_by_definition, quick,
    random_house, random_state, region_by_definition, row_house, sample_states, search, star_house)

SMALL = (((), 1), ((), 3), (((1, 0),), 3), (ROW3, 1), (ROW3, 2), (ROW3, 3), (STAR4, 2), (((3, 1), (0, 2), (1, 2)), 2))

MEETING = ((0, 2), (1, 0))
APART = ((0, 2), (0, 1))
STAR_APART = ((1, 2, 3), (0, 1, 2))


def cases():
    """States of small houses, all of them, with the result of a search from each."""
    for house, people in SMALL:
        for state in all_states(house, people):
            yield house, state, search(house, state)


def crowded_states():
    """States of the largest houses with the most people."""
    rng = random.Random(37)
    for house in (row_house(30), star_house(30), comb_house(30), random_house(rng, 30)):
        yield house, ((0, 1, 2, 3, 4, 29), (5,) * 29)
        yield house, ((29,) * 6, tuple(door % 6 for door in range(29)))
        for _ in range(5):
            yield house, random_state(rng, house, 6)


class MeetingCase(ErrorCase):

    def assert_meets(self, house, state, found):
        """Two people are in one room at the end of the plan, which has so many moves."""
        number, plan = found
        self.assertIs(found.__class__, tuple)
        self.assertIs(number.__class__, int)
        self.assertIsNone(check_plan(house, len(state[0]), plan))
        self.assertEqual(len(plan), number)
        rooms = play(house, state, plan)[0]
        self.assertLess(len(set(rooms)), len(rooms))

    def assert_gathers(self, house, state, room, found):
        """All people are in the room at the end of the plan, which has at most 2,000 moves."""
        word, plan = found
        self.assertIs(found.__class__, tuple)
        self.assertEqual(word, "plan")
        self.assertIsNone(check_plan(house, len(state[0]), plan))
        self.assertLessEqual(len(plan), 2000)
        self.assertEqual(set(play(house, state, plan)[0]), {room})


class TestFirstMeeting(MeetingCase):

    def test_row(self):
        number, plan = first_meeting(ROW3, MEETING)
        self.assertEqual(number, 2)
        self.assertEqual(sorted(plan), [(0, 0, 1), (1, 2, 1)])

    def test_one_of_them_goes_all_the_way(self):
        self.assertEqual(first_meeting(ROW3, ((0, 2), (1, 1))), (2, [(0, 0, 1), (0, 1, 2)]))
        self.assertEqual(first_meeting(ROW3, ((0, 2), (0, 0))), (2, [(1, 2, 1), (1, 1, 0)]))

    def test_in_one_room(self):
        self.assertEqual(first_meeting((), ((0, 0), ())), (0, []))
        self.assertEqual(first_meeting(FORK5, ((0, 4, 3, 4), (0, 1, 2, 3))), (0, []))

    def test_apart(self):
        self.assertIsNone(first_meeting(ROW3, APART))
        self.assertIsNone(first_meeting(STAR4, STAR_APART))

    def test_one_person(self):
        self.assertIsNone(first_meeting((), ((0,), ())))
        self.assertIsNone(first_meeting(FORK5, ((3,), (0, 0, 0, 0))))

    def test_nearest_two_of_those_who_can_meet(self):
        house = row_house(6)
        self.assertEqual(first_meeting(house, ((0, 1, 5), (0, 2, 2, 2, 2)))[0], 1)
        self.assertEqual(first_meeting(house, ((0, 2, 5), (0, 1, 2, 2, 2)))[0], 3)
        self.assertEqual(first_meeting(house, ((0, 2, 5), (0, 1, 2, 1, 2))), None)

    def test_against_search(self):
        for house, state, moves in cases():
            with self.subTest(house=house, state=state):
                meetings = [moves[after] for after in moves if len(set(after[0])) < len(after[0])]
                found = first_meeting(house, state)
                self.assertEqual(None if found is None else found[0], min(meetings, default=None))
                if found is not None:
                    self.assert_meets(house, state, found)

    def test_smallest_distance(self):
        for house, state in sample_states():
            regions = [set(region_by_definition(house, state, person)) for person in range(len(state[0]))]
            distances = [len(path_by_definition(house, state[0][p], state[0][q]))
                         for p in range(len(regions)) for q in range(p) if regions[p] & regions[q]]
            found = first_meeting(house, state)
            with self.subTest(house=house, state=state):
                self.assertEqual(None if found is None else found[0], min(distances, default=None))
                if found is not None:
                    self.assert_meets(house, state, found)

    def test_largest(self):
        for house, state in crowded_states():
            self.assert_meets(house, state, quick(first_meeting, house, state))
        self.assertEqual(first_meeting(row_house(30), ((0, 29), (1,) * 29))[0], 29)
        self.assertEqual(first_meeting(row_house(30), ((0, 29), (1,) * 15 + (0,) * 14))[0], 29)
        self.assertIsNone(first_meeting(row_house(30), ((0, 29), (0,) + (1,) * 28)))

    def test_errors_in_order(self):
        self.assert_error(InvalidHouse, {"reason": ("shape",)}, first_meeting, None, None)
        self.assert_error(InvalidHouse, {"reason": ("ring", 1)}, first_meeting, ((0, 1), (1, 0)), MEETING)
        self.assert_error(InvalidState, {"reason": ("shape",)}, first_meeting, ROW3, None)
        self.assert_error(InvalidState, {"reason": ("room", 1)}, first_meeting, ROW3, ((0, 3), (1, 2)))
        self.assert_error(InvalidState, {"reason": ("barred", 1)}, first_meeting, ROW3, ((0, 2), (1, True)))


class TestCheckFirstMeeting(ErrorCase):

    def test_own_results(self):
        for house, state in sample_states():
            with self.subTest(house=house, state=state):
                self.assertIsNone(check_first_meeting(house, state, first_meeting(house, state)))

    def test_every_shortest_plan(self):
        self.assertIsNone(check_first_meeting(ROW3, MEETING, (2, [(1, 2, 1), (0, 0, 1)])))
        self.assertIsNone(check_first_meeting(ROW3, ((0, 2), (1, 1)), (2, [(0, 0, 1), (0, 1, 2)])))
        state = ((1, 2, 3), (1, 2, 0))
        for p, q in ((0, 1), (1, 2), (2, 0), (1, 0)):
            plan = [(p, p + 1, 0), (q, q + 1, 0)]
            self.assertIsNone(check_first_meeting(STAR4, state, (2, plan)))

    def test_form(self):
        claims = [False, 0, 2, "plan", [], {}, (), (2,), [2, []], (2, [], []), ([], 2), ((), []), ("2", []),
                  ("plan", [(0, 0, 1), (1, 2, 1)])]
        claims.extend((number, [(0, 0, 1), (1, 2, 1)]) for number in NOT_WHOLE + (-1, -HUGE, 2.0))
        claims.extend((2, plan) for plan in NO_PLANS)
        for claim in claims:
            with self.subTest(claim=claim):
                self.assertEqual(check_first_meeting(ROW3, MEETING, claim), ("form",))
                self.assertEqual(check_first_meeting(ROW3, APART, claim), ("form",))

    def test_persons_of_the_state(self):
        self.assertEqual(check_first_meeting(ROW3, ((0, 2), (1, 0)), (2, [(2, 0, 1), (1, 2, 1)])), ("form",))
        self.assertIsNone(check_first_meeting(ROW3, ((2, 2, 0), (2, 0)), (0, [])))
        self.assertEqual(check_first_meeting(ROW3, ((1, 2, 0), (1, 0)), (2, [(2, 0, 1), (1, 2, 1)])), ("number",))

    def test_apart(self):
        self.assertEqual(check_first_meeting(ROW3, MEETING, None), ("apart",))
        self.assertEqual(check_first_meeting((), ((0, 0), ()), None), ("apart",))
        self.assertEqual(check_first_meeting(ROW3, APART, (2, [(0, 0, 1), (1, 2, 1)])), ("apart",))
        self.assertEqual(check_first_meeting((), ((0,), ()), (0, [])), ("apart",))
        self.assertIsNone(check_first_meeting(ROW3, APART, None))
        self.assertIsNone(check_first_meeting((), ((0,), ()), None))

    def test_blocked(self):
        for index, plan in (
                (0, [(0, 1, 0)]), (0, [(0, 1, 2), (0, 0, 1)]), (1, [(0, 0, 1), (0, 1, 0)]),
                (1, [(0, 0, 1), (0, 1, 2), (1, 2, 1)]), (2, [(0, 0, 1), (1, 2, 1), (1, 2, 1)])):
            self.assertEqual(check_first_meeting(ROW3, MEETING, (len(plan), plan)), ("blocked", index))

    def test_meeting(self):
        self.assertEqual(check_first_meeting(ROW3, MEETING, (0, [])), ("meeting",))
        self.assertEqual(check_first_meeting(ROW3, MEETING, (1, [(1, 2, 1)])), ("meeting",))
        # Two people met on the way, but are in different rooms in the end.
        self.assertEqual(check_first_meeting(((0, 1),), ((0, 0), (1,)), (1, [(0, 0, 1)])), ("meeting",))

    def test_number(self):
        plan = [(0, 0, 1), (1, 2, 1)]
        for number in (0, 1, 3, HUGE):
            self.assertEqual(check_first_meeting(ROW3, MEETING, (number, plan)), ("number",))
        longer = plan + [(1, 1, 0), (0, 1, 0)]
        self.assertEqual(check_first_meeting(ROW3, MEETING, (4, longer)), ("number",))
        self.assertEqual(check_first_meeting(ROW3, MEETING, (2, longer)), ("number",))

    def test_first_of_two_faults(self):
        self.assertEqual(check_first_meeting(ROW3, APART, (-1, [])), ("form",))
        self.assertEqual(check_first_meeting(ROW3, MEETING, (2, [(0, 1, 2), (0, 0, 2)])), ("form",))
        self.assertEqual(check_first_meeting(ROW3, APART, (1, [(0, 0, 1)])), ("apart",))
        self.assertEqual(check_first_meeting(ROW3, APART, (9, [])), ("apart",))
        self.assertEqual(check_first_meeting(ROW3, MEETING, (9, [(0, 0, 1), (0, 1, 2)])), ("blocked", 1))
        self.assertEqual(check_first_meeting(ROW3, MEETING, (2, [(0, 1, 2)])), ("blocked", 0))
        self.assertEqual(check_first_meeting(ROW3, MEETING, (9, [(0, 0, 1)])), ("meeting",))

    def test_largest(self):
        for house, state in crowded_states():
            self.assertIsNone(quick(check_first_meeting, house, state, first_meeting(house, state)))
        swing = [(0, 0, 1), (1, 0, 1), (0, 1, 0), (1, 1, 0)] * 500
        state = ((0, 0), (1,) * 29)
        self.assertEqual(quick(check_first_meeting, row_house(30), state, (2000, swing)), ("number",))
        self.assertEqual(quick(check_first_meeting, row_house(30), state, (1999, swing[:-1])), ("meeting",))

    def test_errors_in_order(self):
        self.assert_error(InvalidHouse, {"reason": ("shape",)}, check_first_meeting, [], None, 0)
        self.assert_error(InvalidState, {"reason": ("shape",)}, check_first_meeting, ROW3, None, 0)
        self.assert_error(InvalidState, {"reason": ("barred", 0)}, check_first_meeting, ROW3, ((0,), (1, 0)), None)


class TestGather(MeetingCase):

    def test_row(self):
        for room in range(3):
            self.assert_gathers(ROW3, MEETING, room, gather(ROW3, MEETING, room))

    def test_all_in_the_room(self):
        self.assertEqual(gather((), ((0,), ()), 0), ("plan", []))
        self.assertEqual(gather((), ((0, 0, 0), ()), 0), ("plan", []))
        self.assertEqual(gather(ROW3, ((2,), (0, 0)), 2), ("plan", []))
        self.assert_gathers(ROW3, ((2, 2), (0, 0)), 2, gather(ROW3, ((2, 2), (0, 0)), 2))

    def test_all_in_another_room(self):
        for barred in ((0, 0), (0, 1), (1, 2), (2, 2)):
            self.assert_gathers(ROW3, ((2, 2, 2), barred), 0, gather(ROW3, ((2, 2, 2), barred), 0))

    def test_one_person_elsewhere(self):
        self.assertEqual(gather(ROW3, ((2,), (0, 0)), 0), ("apart", [[2]]))

    def test_apart(self):
        self.assertEqual(gather(ROW3, APART, 1), ("apart", [[0], [2]]))
        state = ((0, 2), (0, 1, 0, 0))
        self.assertEqual(gather(FORK5, state, 2), ("apart", [[0], [2, 3, 4]]))

    def test_regions_in_the_order_of_the_people(self):
        self.assertEqual(gather(STAR4, ((3, 1, 2), (1, 2, 0)), 0), ("apart", [[3], [1], [2]]))

    def test_against_search(self):
        for house, state, moves in cases():
            gathered = {after[0][0] for after in moves if len(set(after[0])) == 1}
            for room in range(len(house) + 1):
                with self.subTest(house=house, state=state, room=room):
                    found = gather(house, state, room)
                    self.assertEqual(found[0], "plan" if room in gathered else "apart")
                    if room in gathered:
                        self.assert_gathers(house, state, room, found)
                    else:
                        regions = [region_by_definition(house, state, person) for person in range(len(state[0]))]
                        self.assertEqual(found, ("apart", regions))

    def test_larger_houses(self):
        for house, state in sample_states():
            for room in {0, len(house) // 2, len(house)}:
                with self.subTest(house=house, state=state, room=room):
                    found = gather(house, state, room)
                    if is_apart(house, state) and set(state[0]) != {room}:
                        regions = [region_by_definition(house, state, person) for person in range(len(state[0]))]
                        self.assertEqual(found, ("apart", regions))
                    else:
                        self.assert_gathers(house, state, room, found)

    def test_largest(self):
        for house, state in crowded_states():
            for room in (0, 14, 29):
                self.assert_gathers(house, state, room, quick(gather, house, state, room))
        # Everybody has to be fetched from one end after the other.
        state = ((0, 1, 29, 0, 29, 0), (5,) * 29)
        self.assert_gathers(row_house(30), state, 29, gather(row_house(30), state, 29))

    def test_errors_in_order(self):
        self.assert_error(InvalidHouse, {"reason": ("shape",)}, gather, list(ROW3), None, None)
        self.assert_error(InvalidState, {"reason": ("room", 0)}, gather, ROW3, ((None, 9), (9, 9)), None)
        for room in NOT_WHOLE + (-1, 3, HUGE, -HUGE):
            self.assert_error(InvalidRoom, {"room": room}, gather, ROW3, MEETING, room)
            self.assert_error(InvalidRoom, {"room": room}, gather, ROW3, APART, room)

    def test_field_is_the_argument(self):
        room = [0]
        with self.assertRaises(InvalidRoom) as caught:
            gather(ROW3, MEETING, room)
        self.assertIs(caught.exception.room, room)


class TestCheckGathering(ErrorCase):

    def test_own_results(self):
        for house, state in sample_states():
            for room in {0, len(house)}:
                with self.subTest(house=house, state=state, room=room):
                    self.assertIsNone(check_gathering(house, state, room, gather(house, state, room)))

    def test_every_plan(self):
        plan = [(1, 2, 1), (0, 0, 1)]
        self.assertIsNone(check_gathering(ROW3, MEETING, 1, ("plan", plan)))
        longer = plan + [(0, 1, 2), (1, 1, 2), (0, 2, 1), (1, 2, 1)]
        self.assertIsNone(check_gathering(ROW3, MEETING, 1, ("plan", longer)))
        self.assertIsNone(check_gathering(ROW3, ((1,), (0, 0)), 1, ("plan", [])))

    def test_apart(self):
        self.assertIsNone(check_gathering(ROW3, APART, 0, ("apart", [[0], [2]])))
        self.assertIsNone(check_gathering(ROW3, ((1,), (0, 0)), 0, ("apart", [[1]])))
        self.assertIsNone(check_gathering(FORK5, ((0, 2), (0, 1, 0, 0)), 2, ("apart", [[0], [2, 3, 4]])))

    def test_form(self):
        claims = [None, True, 0, "plan", "apart", [], {}, (), ("plan",), ("apart",), ["plan", []],
                  ["apart", [[0], [2]]], ("plan", [], []), ("apart", [[0], [2]], 0), (["plan"], []), (b"plan", []),
                  ("plans", []), ("Plan", []), ("", []), (None, []), (0, []), ([], "plan"), ("together", []),
                  ("never", []), (("plan",), [])]
        claims.extend(("plan", plan) for plan in NO_PLANS)
        claims.extend(("apart", [[0], [room]]) for room in NOT_WHOLE)
        claims.extend(("apart", [[2], rooms]) for rooms in NOT_WHOLE if not isinstance(rooms, list))
        claims.extend(("apart", regions) for regions in NOT_WHOLE if not isinstance(regions, list))
        claims.extend([("apart", ([0], [2])), ("apart", [(0,), (2,)]), ("apart", [0, 2]), ("apart", [[[0]], [2]])])
        claims.extend([("apart", [{0: 0}, [2]]), ("apart", {0: [0]}), ("apart", [[0, 1], [2, True]])])
        for claim in claims:
            with self.subTest(claim=claim):
                self.assertEqual(check_gathering(ROW3, MEETING, 1, claim), ("form",))
                self.assertEqual(check_gathering(ROW3, APART, 1, claim), ("form",))

    def test_blocked(self):
        self.assertEqual(check_gathering(ROW3, MEETING, 1, ("plan", [(0, 1, 2)])), ("blocked", 0))
        self.assertEqual(check_gathering(ROW3, MEETING, 1, ("plan", [(0, 0, 1), (0, 1, 2)])), ("blocked", 1))
        self.assertEqual(check_gathering(ROW3, APART, 0, ("plan", [(0, 0, 1)])), ("blocked", 0))
        plan = [(0, 0, 1), (1, 2, 1), (1, 1, 2)]
        self.assertEqual(check_gathering(ROW3, MEETING, 1, ("plan", plan)), ("blocked", 2))

    def test_room(self):
        self.assertEqual(check_gathering(ROW3, MEETING, 1, ("plan", [])), ("room", 0))
        self.assertEqual(check_gathering(ROW3, MEETING, 1, ("plan", [(0, 0, 1)])), ("room", 1))
        self.assertEqual(check_gathering(ROW3, MEETING, 1, ("plan", [(1, 2, 1)])), ("room", 0))
        self.assertEqual(check_gathering(ROW3, MEETING, 0, ("plan", [(0, 0, 1), (1, 2, 1)])), ("room", 0))
        self.assertEqual(check_gathering(ROW3, ((1,), (0, 0)), 0, ("plan", [])), ("room", 0))
        self.assertEqual(check_gathering(ROW3, APART, 0, ("plan", [])), ("room", 1))
        self.assertEqual(check_gathering((), ((0, 0), ()), 0, ("plan", [])), None)

    def test_regions(self):
        for regions in (
                [], [[0]], [[2], [0]], [[0], [2], []], [[0], [2], [2]], [[0], []], [[0], [1, 2]], [[], []], [[0], [-1]],
                [[0], [HUGE]], [[0, 0], [2]], [[0], [2, 2]]):
            self.assertEqual(check_gathering(ROW3, APART, 0, ("apart", regions)), ("regions",))
        state = ((0, 2), (0, 1, 0, 0))
        self.assertEqual(check_gathering(FORK5, state, 0, ("apart", [[0], [4, 3, 2]])), ("regions",))
        self.assertEqual(check_gathering(FORK5, state, 0, ("apart", [[0], [2, 4, 3]])), ("regions",))
        self.assertEqual(check_gathering(ROW3, MEETING, 0, ("apart", [[0], [2]])), ("regions",))

    def test_together(self):
        self.assertEqual(check_gathering(ROW3, MEETING, 0, ("apart", [[0, 1], [1, 2]])), ("together",))
        self.assertEqual(check_gathering(ROW3, ((1,), (0, 0)), 1, ("apart", [[1]])), ("together",))
        self.assertEqual(check_gathering((), ((0,), ()), 0, ("apart", [[0]])), ("together",))
        self.assertEqual(check_gathering((), ((0, 0), ()), 0, ("apart", [[0], [0]])), ("together",))

    def test_first_of_two_faults(self):
        self.assertEqual(check_gathering(ROW3, MEETING, 1, ("plan", [(0, 1, 2), (9, 0, 1)])), ("form",))
        self.assertEqual(check_gathering(ROW3, MEETING, 0, ("apart", [[0], [True]])), ("form",))
        self.assertEqual(check_gathering(ROW3, MEETING, 0, ("plan", [(0, 0, 1), (0, 1, 0)])), ("blocked", 1))
        self.assertEqual(check_gathering(ROW3, MEETING, 0, ("plan", [(1, 2, 1)])), ("room", 1))
        self.assertEqual(check_gathering(ROW3, MEETING, 0, ("apart", [])), ("regions",))
        self.assertEqual(check_gathering(ROW3, ((1,), (0, 0)), 1, ("apart", [[0]])), ("regions",))

    def test_longest_plans(self):
        house = row_house(30)
        swing = [(0, 0, 1), (1, 0, 1), (0, 1, 0), (1, 1, 0)] * 5000
        state = ((0, 0), (1,) * 29)
        self.assertIsNone(quick(check_gathering, house, state, 0, ("plan", swing)))
        self.assertEqual(quick(check_gathering, house, state, 0, ("plan", swing[:-1])), ("room", 1))
        self.assertEqual(quick(check_gathering, house, state, 0, ("plan", swing[:-1] + [(0, 0, 2)])), ("form",))
        wrong = swing[:-1] + [(0, 1, 2)]
        self.assertEqual(quick(check_gathering, house, state, 0, ("plan", wrong)), ("blocked", 19999))

    def test_many_regions(self):
        claim = ("apart", [[0] * 100 for _ in range(1000)])
        self.assertEqual(quick(check_gathering, row_house(30), ((0, 29), (0,) * 28 + (1,)), 0, claim), ("regions",))

    def test_errors_in_order(self):
        self.assert_error(InvalidHouse, {"reason": ("door", 0)}, check_gathering, (0,), None, None, None)
        self.assert_error(InvalidState, {"reason": ("shape",)}, check_gathering, ROW3, None, None, None)
        for room in NOT_WHOLE + (-1, 3, HUGE, -HUGE):
            self.assert_error(InvalidRoom, {"room": room}, check_gathering, ROW3, APART, room, None)
            self.assert_error(InvalidRoom, {"room": room}, check_gathering, ROW3, APART, room, ("apart", [[0], [2]]))


if __name__ == "__main__":
    unittest.main()
