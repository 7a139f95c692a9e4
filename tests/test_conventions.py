"""Promise [2] and the interface: names, arguments, and what happens to them."""

import copy
import importlib
import inspect
import unittest

from tests.helpers import FORK5, ROW3, STAR4

PARAMETERS = {
    "houses": {
        "check_house": ("value",),
        "path_between": ("house", "a", "b"),
        "far_side": ("house", "door", "room"),
    },
    "states": {
        "check_state": ("house", "value"),
        "check_plan": ("house", "people", "value"),
        "possible_moves": ("house", "state"),
        "play": ("house", "state", "plan"),
    },
    "regions": {
        "region": ("house", "state", "person"),
        "walk_to": ("house", "state", "person", "room"),
        "is_apart": ("house", "state"),
        "walk_lengths": ("house", "state"),
    },
    "meetings": {
        "first_meeting": ("house", "state"),
        "check_first_meeting": ("house", "state", "claim"),
        "gather": ("house", "state", "room"),
        "check_gathering": ("house", "state", "room", "claim"),
    },
    "origins": {
        "groups": ("house", "state"),
        "explained_doors": ("house", "state"),
        "count_previous": ("house", "state"),
        "previous_at": ("house", "state", "index"),
        "previous_index": ("house", "state", "previous"),
    },
    "reach": {
        "find_plan": ("house", "start", "target"),
        "check_reach": ("house", "start", "target", "claim"),
    },
    "pairs": {
        "kept_bits": ("house", "state"),
        "state_of_bits": ("house", "bits", "a", "b"),
        "can_meet": ("house", "bits", "a", "b"),
        "can_follow": ("house", "bits", "a", "b"),
        "count_pairs": ("house", "bits"),
        "pair_distance": ("house", "start", "target"),
    },
    "search": {
        "shortest_plan": ("house", "start", "target"),
    },
    "counting": {
        "count_states": ("house", "people"),
        "count_apart": ("house", "people"),
        "count_frozen": ("house", "people"),
        "count_following": ("house", "state"),
    },
    "walks": {
        "count_plans": ("house", "state", "length"),
        "plan_at": ("house", "state", "length", "index"),
    },
    "openings": {
        "fewest_openings": ("house", "state"),
        "check_openings": ("house", "state", "claim"),
    },
    "effects": {
        "plan_effect": ("house", "people", "plan"),
        "compare_plans": ("house", "people", "first", "second"),
        "check_comparison": ("house", "people", "first", "second", "claim"),
        "count_playable": ("house", "people", "plan"),
    },
    "orders": {
        "normal_form": ("house", "people", "plan"),
        "count_rearrangements": ("house", "people", "plan"),
    },
    "rounds": {
        "check_schedule": ("house", "people", "value"),
        "play_rounds": ("house", "state", "schedule"),
        "schedule_of": ("house", "people", "plan"),
        "first_meeting_round": ("house", "state"),
        "check_meeting_round": ("house", "state", "claim"),
    },
}

# The methods of a session, with the parameters that the interface lists.
METHODS = {
    "go": ("person", "room"),
    "play": ("plan",),
    "undo": (),
    "state": (),
    "moves": (),
    "copy": (),
}

APART = ((0, 2), (0, 1, 0, 0))
MEETING = ((0, 2), (1, 0))
MET = ((1, 1), (0, 1))
STAR_APART = ((1, 2, 3), (0, 1, 2))
CROWD = ((0, 0, 0), (0, 1, 2))
PLAN = [(0, 0, 1), (1, 2, 1)]
SCHEDULE = [[(0, 0, 1), (1, 2, 1)], [(1, 1, 0)]]

CALLS = {
    "check_house": ((([0, 1], [1, 2]),), (((0, 1), [1], {0: [1]}),)),
    "path_between": ((FORK5, 0, 4), (FORK5, 3, 3)),
    "far_side": ((STAR4, 0, 1), (STAR4, 2, 0)),
    "check_state": ((ROW3, ((0, 1), (0, 1))), (ROW3, [[0, 1], [0, 1]])),
    "check_plan": ((ROW3, 2, [(0, 0, 1)]), (ROW3, 2, [(0, 0, 1), [0, [1], {}]])),
    "possible_moves": ((ROW3, ((0, 2), (1, 0))), (ROW3, ((1,), (0, 0)))),
    "play": ((ROW3, ((0, 2), (1, 0)), [(0, 0, 1), (1, 2, 1)]), (ROW3, ((0, 2), (1, 0)), [])),
    "region": ((FORK5, APART, 0), (FORK5, APART, 1)),
    "walk_to": ((FORK5, APART, 1, 4), (FORK5, APART, 1, 2), (FORK5, APART, 0, 4)),
    "is_apart": ((FORK5, APART), (ROW3, ((0, 2), (1, 0)))),
    "walk_lengths": ((FORK5, APART), (ROW3, ((0, 2), (1, 0)))),
    "first_meeting": ((ROW3, MEETING), (ROW3, MET), (STAR4, STAR_APART)),
    "check_first_meeting": ((ROW3, MEETING, (2, PLAN)), (ROW3, MEETING, (2, [[0], {0: []}]))),
    "gather": ((ROW3, MEETING, 0), (ROW3, MET, 1), (STAR4, CROWD, 3), (STAR4, STAR_APART, 0), (FORK5, APART, 2)),
    "check_gathering": (
        (ROW3, MEETING, 1, ("plan", PLAN)), (FORK5, APART, 0, ("apart", [[0], [2, 3, 4]])), (ROW3, MET, 1, [[], {}])),
    "groups": ((ROW3, MEETING), (STAR4, CROWD), (FORK5, APART)),
    "explained_doors": ((ROW3, MEETING), (STAR4, CROWD), (FORK5, APART)),
    "count_previous": ((ROW3, MET), (STAR4, STAR_APART)),
    "previous_at": ((ROW3, MET, 0), (ROW3, MET, 1), (STAR4, CROWD, 3)),
    "previous_index": ((ROW3, MET, MEETING), (ROW3, MET, ((0, 1), (1, 1)))),
    "find_plan": (
        (ROW3, MEETING, MET), (ROW3, MET, MEETING), (STAR4, CROWD, ((0, 0, 0), (1, 1, 0))), (STAR4, CROWD, CROWD),
        (FORK5, APART, ((0, 4), (0, 1, 0, 1)))),
    "check_reach": (
        (ROW3, MEETING, MET, ("plan", PLAN)), (ROW3, MET, MEETING, ("never", ("bit", 0))),
        (ROW3, MET, MEETING, ["never", [{}, [0]]])),
    "kept_bits": ((ROW3, MEETING), (FORK5, APART)),
    "state_of_bits": ((ROW3, (1, 0), 0, 1), (FORK5, (1, 0, 0, 1), 4, 0)),
    "can_meet": ((ROW3, (1, 0), 0, 2), (FORK5, (1, 0, 0, 1), 4, 0)),
    "can_follow": ((ROW3, (1, 0), 0, 2), (FORK5, (1, 0, 0, 1), 4, 0)),
    "count_pairs": ((ROW3, (1, 0)), ((), ())),
    "pair_distance": ((ROW3, MEETING, MET), (ROW3, MET, MEETING)),
    "shortest_plan": ((ROW3, MEETING, MET), (ROW3, MET, MEETING), (ROW3, MET, MET), (STAR4, CROWD, CROWD)),
    "count_states": ((ROW3, 2), ((), 3)),
    "count_apart": ((ROW3, 2), (FORK5, 1)),
    "count_frozen": ((STAR4, 3), ((), 3)),
    "count_following": ((FORK5, APART), (ROW3, MEETING)),
    "count_plans": ((FORK5, APART, 1), (ROW3, MEETING, 3), (STAR4, STAR_APART, 0)),
    "plan_at": ((FORK5, APART, 1, 1), (ROW3, MEETING, 3, 0), (STAR4, STAR_APART, 0, 0)),
    "fewest_openings": ((STAR4, STAR_APART), (ROW3, MEETING), ((), ((0,), ()))),
    "check_openings": (
        (STAR4, STAR_APART, (1, [(0, 1)])), (ROW3, MEETING, (0, [])), (STAR4, STAR_APART, (1, [[0], {0: []}]))),
    "plan_effect": ((ROW3, 2, PLAN), (ROW3, 2, []), (ROW3, 2, PLAN + PLAN), (ROW3, 1, PLAN[:1])),
    "compare_plans": ((ROW3, 2, PLAN, PLAN[::-1]), (ROW3, 2, PLAN, PLAN[:1]), (ROW3, 2, [], PLAN)),
    "check_comparison": (
        (ROW3, 2, PLAN, PLAN[::-1], ("same",)), (ROW3, 2, PLAN, [], ("different", MEETING)),
        (ROW3, 2, PLAN, [], ["different", [[0], {}]])),
    "count_playable": ((ROW3, 2, PLAN), (ROW3, 2, PLAN + PLAN)),
    "normal_form": ((ROW3, 2, PLAN[::-1]), (ROW3, 2, []), (STAR4, 3, [(2, 3, 0), (1, 2, 0), (0, 1, 0)])),
    "count_rearrangements": ((ROW3, 2, PLAN), (ROW3, 2, [])),
    "check_schedule": ((ROW3, 2, SCHEDULE), (ROW3, 2, [[(0, 0, 1)], [[0], {}]])),
    "play_rounds": ((ROW3, MEETING, SCHEDULE), (ROW3, MEETING, [])),
    "schedule_of": ((ROW3, 2, PLAN), (ROW3, 2, []), (ROW3, 2, PLAN + PLAN)),
    "first_meeting_round": ((ROW3, MEETING), (ROW3, MET), (STAR4, STAR_APART), (FORK5, ((0, 4), (1, 1, 0, 1)))),
    "check_meeting_round": ((ROW3, MEETING, (1, SCHEDULE[:1])), (ROW3, MEETING, (2, [[[0]], {0: []}]))),
}


def lists_in(value):
    """All lists inside the value, the value itself included."""
    if isinstance(value, dict):
        return [inner for worth in value.values() for inner in lists_in(worth)]
    if not isinstance(value, (list, tuple)):
        return []
    own = [value] if isinstance(value, list) else []
    return own + [inner for worth in value for inner in lists_in(worth)]


def functions():
    """Each function with the parameters that the interface lists."""
    found = []
    for file, listed in PARAMETERS.items():
        module = importlib.import_module("lastthrough." + file)
        found.extend((getattr(module, name), parameters) for name, parameters in listed.items())
    return found


def calls():
    """Each function with the arguments of some calls."""
    return [(function, arguments) for function, _ in functions() for arguments in CALLS[function.__name__]]


class TestConventions(unittest.TestCase):

    def test_defined_where_the_interface_lists_them(self):
        for file, listed in PARAMETERS.items():
            module = importlib.import_module("lastthrough." + file)
            for name in listed:
                self.assertEqual(getattr(module, name).__module__, module.__name__)

    def test_parameters(self):
        for function, parameters in functions():
            with self.subTest(function=function.__name__):
                signature = inspect.signature(function)
                self.assertEqual(tuple(signature.parameters), parameters)
                for parameter in signature.parameters.values():
                    self.assertEqual(parameter.kind, inspect.Parameter.POSITIONAL_OR_KEYWORD)

    def test_session(self):
        sessions = importlib.import_module("lastthrough.sessions")
        self.assertEqual(sessions.Session.__module__, sessions.__name__)
        self.assertEqual(tuple(inspect.signature(sessions.Session).parameters), ("house", "state"))
        for name in [*METHODS, "__len__", "__eq__"]:
            self.assertIn(name, vars(sessions.Session))
        for name, parameters in METHODS.items():
            signature = inspect.signature(getattr(sessions.Session, name))
            self.assertEqual(tuple(signature.parameters)[1:], parameters)
            for parameter in signature.parameters.values():
                self.assertEqual(parameter.kind, inspect.Parameter.POSITIONAL_OR_KEYWORD)

    def test_every_file_of_the_interface(self):
        for file in [*PARAMETERS, "errors", "sessions"]:
            self.assertIsNotNone(importlib.import_module("lastthrough." + file).__doc__)
        self.assertEqual(len(PARAMETERS), 14)
        self.assertEqual(sum(len(listed) for listed in PARAMETERS.values()), 48)

    def test_keyword_arguments(self):
        for function, arguments in calls():
            with self.subTest(arguments=arguments, function=function.__name__):
                named = dict(reversed(list(zip(inspect.signature(function).parameters, arguments))))
                self.assertEqual(function(**named), function(*arguments))

    def test_arguments_are_not_modified(self):
        for function, arguments in calls():
            with self.subTest(arguments=arguments, function=function.__name__):
                before = copy.deepcopy(arguments)
                function(*arguments)
                self.assertEqual(repr(arguments), repr(before))

    def test_lists_are_new(self):
        for function, arguments in calls():
            with self.subTest(arguments=arguments, function=function.__name__):
                first = function(*arguments)
                expected = copy.deepcopy(first)
                given = [id(inner) for inner in lists_in(arguments)]
                found = [id(inner) for inner in lists_in(first)]
                self.assertEqual(len(set(found)), len(found))
                self.assertFalse(set(found) & set(given))
                for inner in lists_in(first):
                    inner.append("changed")
                self.assertEqual(function(*arguments), expected)

    def test_changed_argument(self):
        from lastthrough.states import check_plan, play
        plan = [(0, 0, 1), (1, 2, 1)]
        after = play(ROW3, ((0, 2), (1, 0)), plan)
        self.assertIsNone(check_plan(ROW3, 2, plan))
        plan[1] = (0, 0, 2)
        self.assertEqual(after, ((1, 1), (0, 1)))
        self.assertEqual(check_plan(ROW3, 2, plan), ("move", 1))
        del plan[1]
        self.assertEqual(play(ROW3, ((0, 2), (1, 0)), plan), ((1, 2), (0, 0)))

    def test_changed_claim(self):
        from lastthrough.meetings import check_gathering
        from lastthrough.reach import check_reach
        plan = list(PLAN)
        self.assertIsNone(check_gathering(ROW3, MEETING, 1, ("plan", plan)))
        self.assertIsNone(check_reach(ROW3, MEETING, MET, ("plan", plan)))
        del plan[1]
        self.assertEqual(check_gathering(ROW3, MEETING, 1, ("plan", plan)), ("room", 1))
        self.assertEqual(check_reach(ROW3, MEETING, MET, ("plan", plan)), ("result",))

    def test_changed_list_of_changes(self):
        from lastthrough.openings import check_openings
        changes = [(0, 1)]
        claim = (1, changes)
        self.assertIsNone(check_openings(STAR4, STAR_APART, claim))
        changes[0] = (0, 0)
        self.assertEqual(check_openings(STAR4, STAR_APART, claim), ("same", 0))

    def test_changed_schedule(self):
        from lastthrough.rounds import check_schedule, play_rounds
        schedule = [list(moves) for moves in SCHEDULE]
        after = play_rounds(ROW3, MEETING, schedule)
        self.assertIsNone(check_schedule(ROW3, 2, schedule))
        schedule[0].clear()
        self.assertEqual(after, ((1, 0), (1, 1)))
        self.assertEqual(check_schedule(ROW3, 2, schedule), ("round", 0))

    def test_same_arguments_same_result(self):
        for function, arguments in calls():
            with self.subTest(arguments=arguments, function=function.__name__):
                self.assertEqual(repr(function(*arguments)), repr(function(*copy.deepcopy(arguments))))


if __name__ == "__main__":
    unittest.main()
