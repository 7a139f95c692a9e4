"""Promises [110] to [114]: sessions."""

import random
import unittest

from lastthrough.errors import (
    InvalidHouse, InvalidPerson, InvalidPlan, InvalidRoom, InvalidState, MoveBlocked, NothingToUndo)
from lastthrough.sessions import Session
from lastthrough.states import play
from tests.helpers import (
    BAD_HOUSES, FORK5, HUGE, NO_PLANS, NOT_WHOLE, ROW3, STAR4, ErrorCase, large_plans, moves_by_definition,
    outcome_by_definition, quick, random_house, random_plan, reason_of_plan, row_house, sample_states, star_house,
    swing_plan)

MEETING = ((0, 2), (1, 0))
MET = ((1, 1), (0, 1))
PLAN = [(0, 0, 1), (1, 2, 1)]


class Record:
    """What a session must be like: the state at the start and the plans of all steps."""

    def __init__(self, house, start, steps=()):
        self.house = house
        self.start = start
        self.steps = list(steps)

    def moves(self):
        return [move for plan in self.steps for move in plan]

    def state(self):
        return outcome_by_definition(self.house, self.start, self.moves())

    def copy(self):
        return Record(self.house, self.start, self.steps)


class SessionCase(ErrorCase):

    def assert_like(self, session, record):
        self.assertEqual(session.state(), record.state())
        self.assertEqual(session.moves(), record.moves())
        self.assertEqual(len(session), len(record.moves()))

    def assert_unchanged(self, session, error, fields, call, *arguments):
        """The error is raised, and the session stays as it is, with its steps."""
        before = (session.state(), session.moves(), len(session))
        twin = session.copy()
        self.assert_error(error, fields, call, *arguments)
        self.assertEqual((session.state(), session.moves(), len(session)), before)
        other = session.copy()
        self.assertEqual(undone(other), undone(twin))


def undone(session):
    """What the session is like after each step that it takes back."""
    found = []
    while True:
        found.append((session.state(), session.moves()))
        try:
            session.undo()
        except NothingToUndo:
            return found


class TestStart(SessionCase):

    def test_new_session(self):
        for house, state in sample_states():
            session = Session(house, state)
            self.assertEqual(session.state(), state)
            self.assertEqual(session.moves(), [])
            self.assertEqual(len(session), 0)
            self.assert_unchanged(session, NothingToUndo, {}, session.undo)

    def test_keyword_arguments(self):
        session = Session(state=MEETING, house=ROW3)
        self.assertEqual(session.go(room=1, person=0), ((1, 2), (0, 0)))
        self.assertEqual(session.play(plan=[(1, 2, 1)]), MET)

    def test_errors_in_order(self):
        for house, reason in BAD_HOUSES:
            for state in (None, ((5,), ())):
                self.assert_error(InvalidHouse, {"reason": reason}, Session, house, state)
        for state, reason in (
                (None, ("shape",)), ([(0, 2), (1, 0)], ("shape",)), (((), (0, 0)), ("shape",)),
                (((0, 3), (1, 2)), ("room", 1)), (((0, True), (1, 0)), ("room", 1)),
                (((0, 2), (1, 2)), ("barred", 1)), (((0, 2), (False, 0)), ("barred", 0))):
            self.assert_error(InvalidState, {"reason": reason}, Session, ROW3, state)


class TestGo(SessionCase):

    def test_row(self):
        session = Session(ROW3, MEETING)
        self.assertEqual(session.go(0, 1), ((1, 2), (0, 0)))
        self.assertEqual(session.state(), ((1, 2), (0, 0)))
        self.assertEqual(session.go(1, 1), MET)
        self.assertEqual(session.moves(), PLAN)
        self.assertEqual(len(session), 2)

    def test_wrong_persons(self):
        for session in (Session(ROW3, MEETING), Session((), ((0, 0), ()))):
            for person in NOT_WHOLE + (-1, 2, HUGE, -HUGE):
                for room in (0, 1, None, 7):
                    self.assert_unchanged(session, InvalidPerson, {"person": person}, session.go, person, room)

    def test_wrong_rooms(self):
        session = Session(ROW3, MEETING)
        session.go(0, 1)
        for room in NOT_WHOLE + (-1, 3, HUGE, -HUGE):
            self.assert_unchanged(session, InvalidRoom, {"room": room}, session.go, 0, room)
        self.assert_unchanged(session, InvalidRoom, {"room": 3}, session.go, 1, 3)

    def test_field_is_the_argument(self):
        session = Session(ROW3, MEETING)
        wrong = [0]
        with self.assertRaises(InvalidPerson) as caught:
            session.go(wrong, 0)
        self.assertIs(caught.exception.person, wrong)
        with self.assertRaises(InvalidRoom) as caught:
            session.go(0, wrong)
        self.assertIs(caught.exception.room, wrong)

    def test_away(self):
        session = Session(ROW3, MEETING)
        away = {"index": 0, "reason": ("away",)}
        for person, room in ((0, 0), (0, 2), (1, 2), (1, 0)):
            self.assert_unchanged(session, MoveBlocked, away, session.go, person, room)
        session.go(0, 1)
        self.assert_unchanged(session, MoveBlocked, {"index": 1, "reason": ("away",)}, session.go, 0, 1)
        session = Session((), ((0, 0), ()))
        self.assert_unchanged(session, MoveBlocked, away, session.go, 0, 0)

    def test_barred(self):
        session = Session(ROW3, MEETING)
        session.go(0, 1)
        for room in (0, 2):
            self.assert_unchanged(session, MoveBlocked, {"index": 1, "reason": ("barred",)}, session.go, 0, room)
        session.go(1, 1)
        session.play([])
        self.assert_unchanged(session, MoveBlocked, {"index": 2, "reason": ("barred",)}, session.go, 1, 2)
        session.undo()
        session.undo()
        self.assert_unchanged(session, MoveBlocked, {"index": 1, "reason": ("barred",)}, session.go, 0, 0)
        alone = Session(ROW3, ((1,), (0, 0)))
        self.assert_unchanged(alone, MoveBlocked, {"index": 0, "reason": ("barred",)}, alone.go, 0, 2)

    def test_index_is_the_number_of_all_moves(self):
        session = Session(ROW3, ((0, 0), (1, 1)))
        session.play(swing_plan(40))
        self.assert_unchanged(session, MoveBlocked, {"index": 40, "reason": ("barred",)}, session.go, 1, 1)
        self.assert_unchanged(session, MoveBlocked, {"index": 40, "reason": ("away",)}, session.go, 1, 2)
        session.go(0, 1)
        self.assert_unchanged(session, MoveBlocked, {"index": 41, "reason": ("barred",)}, session.go, 0, 0)

    def test_possible_moves(self):
        for house, state in sample_states():
            possible = moves_by_definition(house, state)
            for person, start in enumerate(state[0]):
                for room in range(len(house) + 1):
                    session = Session(house, state)
                    if (person, start, room) in possible:
                        after = session.go(person, room)
                        self.assertEqual(after, outcome_by_definition(house, state, [(person, start, room)]))
                        self.assertEqual(session.moves(), [(person, start, room)])
                    else:
                        with self.assertRaises(MoveBlocked):
                            session.go(person, room)


class TestPlay(SessionCase):

    def test_row(self):
        session = Session(ROW3, MEETING)
        self.assertEqual(session.play(PLAN), MET)
        self.assertEqual((session.state(), session.moves(), len(session)), (MET, PLAN, 2))
        self.assertEqual(session.play([(1, 1, 0), (0, 1, 2)]), ((2, 0), (1, 0)))
        self.assertEqual(session.moves(), PLAN + [(1, 1, 0), (0, 1, 2)])

    def test_empty_plan(self):
        session = Session(ROW3, MEETING)
        self.assertEqual(session.play([]), MEETING)
        self.assertEqual((session.state(), session.moves(), len(session)), (MEETING, [], 0))
        self.assertEqual(Session((), ((0,), ())).play([]), ((0,), ()))

    def test_wrong_plans(self):
        session = Session(ROW3, MEETING)
        session.go(0, 1)
        for plan in NO_PLANS:
            self.assert_unchanged(session, InvalidPlan, {"reason": reason_of_plan(2, plan)}, session.play, plan)
        # A move that is none comes before a move that is not possible.
        self.assert_unchanged(
            session, InvalidPlan, {"reason": ("move", 2)}, session.play, [(1, 2, 1), (0, 0, 1), (0, 0, 2)])

    def test_blocked(self):
        session = Session(ROW3, MEETING)
        session.go(0, 1)
        for index, reason, plan in (
                (0, "away", [(0, 0, 1)]), (0, "barred", [(0, 1, 0)]), (1, "away", [(1, 2, 1), (1, 2, 1)]),
                (1, "barred", [(1, 2, 1), (1, 1, 2)]), (2, "barred", [(1, 2, 1), (1, 1, 0), (1, 0, 1)]),
                (3, "away", [(1, 2, 1), (1, 1, 0), (0, 1, 0), (0, 1, 0)])):
            fields = {"index": index, "reason": (reason,)}
            self.assert_unchanged(session, MoveBlocked, fields, session.play, plan)

    def test_changed_plan(self):
        session = Session(ROW3, MEETING)
        plan = list(PLAN)
        session.play(plan)
        plan[0] = (0, 0, 2)
        plan.append(None)
        self.assertEqual(session.moves(), PLAN)
        own = session.moves()
        session.undo()
        session.play(own)
        own.clear()
        self.assertEqual(session.moves(), PLAN)

    def test_plan_is_not_modified(self):
        session = Session(ROW3, MEETING)
        plan = list(PLAN)
        session.play(plan)
        session.play([(1, 1, 0)])
        session.undo()
        session.undo()
        self.assertEqual(plan, PLAN)


class TestUndo(SessionCase):

    def test_step_of_one_move(self):
        session = Session(ROW3, MEETING)
        session.go(0, 1)
        self.assertIsNone(session.undo())
        self.assertEqual((session.state(), session.moves(), len(session)), (MEETING, [], 0))
        self.assert_unchanged(session, NothingToUndo, {}, session.undo)

    def test_step_of_many_moves(self):
        session = Session(ROW3, ((0, 0), (1, 1)))
        session.go(0, 1)
        here = session.state()
        session.play(swing_plan(40)[1:])
        self.assertIsNone(session.undo())
        self.assertEqual((session.state(), session.moves()), (here, [(0, 0, 1)]))
        session.undo()
        self.assertEqual((session.state(), session.moves()), (((0, 0), (1, 1)), []))
        self.assert_unchanged(session, NothingToUndo, {}, session.undo)

    def test_step_of_no_moves(self):
        session = Session(ROW3, MEETING)
        session.play([])
        session.go(0, 1)
        session.play([])
        session.play([])
        for expected in ([(0, 0, 1)], [(0, 0, 1)], [], []):
            self.assertIsNone(session.undo())
            self.assertEqual(session.moves(), expected)
            self.assertEqual(session.state(), play(ROW3, MEETING, expected))
        self.assert_unchanged(session, NothingToUndo, {}, session.undo)

    def test_barred_doors_come_back(self):
        session = Session(ROW3, ((1, 1, 1), (2, 2)))
        session.go(0, 0)
        session.go(1, 0)
        session.undo()
        self.assertEqual(session.state(), ((0, 1, 1), (0, 2)))
        session.undo()
        self.assertEqual(session.state(), ((1, 1, 1), (2, 2)))


class TestCopies(SessionCase):

    def test_each_goes_its_own_way(self):
        session = Session(ROW3, MEETING)
        session.go(0, 1)
        twin = session.copy()
        self.assertIsNot(twin, session)
        self.assertIs(twin.__class__, Session)
        self.assertEqual(twin, session)
        session.go(1, 1)
        self.assertEqual((twin.state(), twin.moves(), len(twin)), (((1, 2), (0, 0)), [(0, 0, 1)], 1))
        twin.undo()
        self.assertEqual((session.state(), session.moves()), (MET, PLAN))
        self.assertEqual((twin.state(), twin.moves()), (MEETING, []))
        session.undo()
        session.undo()
        self.assertEqual(session, twin)
        for each in (session, twin):
            self.assert_unchanged(each, NothingToUndo, {}, each.undo)

    def test_steps_are_copied(self):
        session = Session(ROW3, MEETING)
        session.play([])
        session.play(PLAN)
        session.go(1, 0)
        twin = session.copy()
        session.undo()
        for moves in (PLAN, [], []):
            twin.undo()
            self.assertEqual(twin.moves(), moves)
        self.assert_unchanged(twin, NothingToUndo, {}, twin.undo)
        self.assertEqual(session.moves(), PLAN)

    def test_copy_of_a_copy(self):
        session = Session(ROW3, MEETING)
        session.go(0, 1)
        twin = session.copy().copy()
        twin.go(1, 1)
        twin.undo()
        twin.undo()
        self.assertEqual((session.moves(), twin.moves()), ([(0, 0, 1)], []))

    def test_returned_lists_are_new(self):
        session = Session(ROW3, MEETING)
        session.play(PLAN)
        first = session.moves()
        self.assertIs(first.__class__, list)
        self.assertIsNot(session.moves(), first)
        first.append((0, 1, 0))
        first[0] = None
        self.assertEqual((session.moves(), len(session), session.state()), (PLAN, 2, MET))


class TestEquality(SessionCase):

    def assert_equal(self, first, second):
        self.assertIs(first == second, True)
        self.assertIs(second == first, True)
        self.assertIs(first != second, False)

    def assert_different(self, first, second):
        self.assertIs(first == second, False)
        self.assertIs(second == first, False)
        self.assertIs(first != second, True)

    def test_equal(self):
        self.assert_equal(Session(ROW3, MEETING), Session(ROW3, MEETING))
        self.assert_equal(Session((), ((0,), ())), Session((), ((0,), ())))
        session = Session(ROW3, MEETING)
        self.assert_equal(session, session)
        self.assert_equal(session, session.copy())

    def test_houses(self):
        # The same house and the same state, with the doors in another order.
        session = Session(ROW3, ((0, 2), (0, 0)))
        self.assert_different(session, Session(((1, 2), (0, 1)), ((0, 2), (0, 0))))
        self.assert_different(session, Session(((1, 0), (1, 2)), ((0, 2), (0, 0))))
        self.assert_different(session, Session(((0, 1), (0, 2)), ((0, 2), (0, 0))))
        self.assert_equal(session, Session(tuple(tuple(list(door)) for door in ROW3), ((0, 2), (0, 0))))

    def test_states(self):
        session = Session(ROW3, MEETING)
        for state in (((0, 1), (1, 0)), ((1, 2), (1, 0)), ((0, 2), (0, 0)), ((0, 2), (1, 1)), ((0, 2, 2), (1, 0))):
            self.assert_different(session, Session(ROW3, state))

    def test_moves(self):
        session = Session(ROW3, MEETING)
        session.play(PLAN)
        # The same state, without the moves or with the moves in another order.
        self.assert_different(session, Session(ROW3, MET))
        other = Session(ROW3, MEETING)
        other.play(PLAN[::-1])
        self.assertEqual(session.state(), other.state())
        self.assert_different(session, other)

    def test_same_moves_from_other_states(self):
        session = Session(ROW3, ((0, 2), (1, 0)))
        other = Session(ROW3, ((0, 2), (1, 1)))
        session.go(0, 1)
        other.go(0, 1)
        self.assertEqual(session.moves(), other.moves())
        self.assert_different(session, other)

    def test_states_at_the_start_do_not_count(self):
        # A door that is used tells nothing of whom it barred before.
        session = Session(ROW3, ((0, 2, 2), (1, 0)))
        other = Session(ROW3, ((0, 2, 2), (2, 0)))
        self.assert_different(session, other)
        session.go(0, 1)
        other.go(0, 1)
        self.assert_equal(session, other)
        session.undo()
        other.undo()
        self.assert_different(session, other)

    def test_steps_do_not_count(self):
        session = Session(ROW3, MEETING)
        session.play(PLAN)
        other = Session(ROW3, MEETING)
        for _, _, room in PLAN:
            other.play([])
            other.go(len(other), room)
        other.play([])
        self.assert_equal(session, other)
        session.undo()
        self.assert_different(session, other)
        for _ in range(5):
            other.undo()
        self.assert_equal(session, other)

    def test_other_objects(self):
        session = Session(ROW3, MEETING)
        others = [None, 0, "", "Session", (), [], {}, ROW3, MEETING, (ROW3, MEETING, []), [ROW3, MEETING, []],
                  Record(ROW3, MEETING), object(), Session]
        for other in others:
            self.assert_different(session, other)

        class Agreeable:

            def __eq__(self, other):
                return True

        self.assertIs(session == Agreeable(), False)


class TestSequences(SessionCase):

    def test_long_sequences(self):
        rng = random.Random(251)
        houses = [((), 2), (((0, 1),), 3), (ROW3, 2), (STAR4, 3), (FORK5, 4), (row_house(6), 6), (star_house(8), 5),
                  (random_house(rng, 9), 6)]
        for house, people in houses:
            start = ((0,) * people, tuple(rng.randrange(people) for _ in house))
            pairs = [(Session(house, start), Record(house, start))]
            for _ in range(200):
                session, record = rng.choice(pairs)
                self.do_anything(rng, session, record, pairs)
                session, record = rng.choice(pairs)
                self.assert_like(session, record)
                other, other_record = rng.choice(pairs)
                same = (record.state(), record.moves()) == (other_record.state(), other_record.moves())
                self.assertIs(session == other, same)
            for session, record in pairs:
                self.assert_like(session, record)
                while record.steps:
                    session.undo()
                    record.steps.pop()
                    self.assert_like(session, record)
                self.assert_error(NothingToUndo, {}, session.undo)

    def do_anything(self, rng, session, record, pairs):
        house, state = record.house, record.state()
        people = len(state[0])
        choice = rng.randrange(8)
        if choice < 3:
            person, room = rng.randrange(people), rng.randrange(len(house) + 1)
            plan = [(person, state[0][person], room)]
            self.do_plan(record, plan, session.go, person, room)
        elif choice < 5:
            plan = []
            here = state
            for _ in range(rng.randrange(4)):
                moves = moves_by_definition(house, here)
                if moves:
                    plan.append(rng.choice(moves))
                    here = outcome_by_definition(house, here, plan[-1:])
            if rng.random() < 0.3 and house:
                plan = plan + random_plan(rng, house, people, 1)
            self.do_plan(record, plan, session.play, plan)
        elif choice < 7:
            if record.steps:
                self.assertIsNone(session.undo())
                record.steps.pop()
            else:
                self.assert_error(NothingToUndo, {}, session.undo)
        elif len(pairs) < 4:
            pairs.append((session.copy(), record.copy()))

    def do_plan(self, record, plan, call, *arguments):
        """Make a call that does the plan as one step, if the plan is possible."""
        after = outcome_by_definition(record.house, record.state(), plan)
        if after is None:
            with self.assertRaises(MoveBlocked):
                call(*arguments)
        else:
            self.assertEqual(call(*arguments), after)
            record.steps.append(plan)

    def test_largest(self):
        for house, state, plan in large_plans():
            quick(self.go_all_the_way, house, state, plan)
        swing = swing_plan(20000)
        quick(self.go_all_the_way, row_house(30), ((0,) * 6, (1,) * 29), swing)
        session = Session(row_house(30), ((0,) * 6, (1,) * 29))
        for _ in range(10):
            session.play(swing[:2000])
        self.assertEqual(len(session), 20000)
        self.assertEqual(quick(session.copy), session)
        self.assertEqual(quick(Session(row_house(30), ((0,) * 6, (1,) * 29)).play, session.moves()), session.state())

    def go_all_the_way(self, house, state, plan):
        session = Session(house, state)
        for person, _, end in plan:
            session.go(person, end)
        self.assertEqual(session.moves(), plan)
        self.assertEqual(session.state(), play(house, state, plan))
        for _ in plan:
            session.undo()
        self.assertEqual(session, Session(house, state))

    def test_sessions_do_not_share_anything(self):
        rng = random.Random(257)
        for house, state in sample_states():
            first = Session(house, state)
            second = Session(house, state)
            moves = moves_by_definition(house, state)
            if moves:
                person, _, room = rng.choice(moves)
                first.go(person, room)
                self.assertEqual((second.state(), second.moves()), (state, []))
                self.assert_error(NothingToUndo, {}, second.undo)


if __name__ == "__main__":
    unittest.main()
