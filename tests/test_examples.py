"""The examples of the document, word for word."""

import unittest

from lastthrough import errors

EXAMPLES = (
    # [10]
    """
>>> from lastthrough.states import possible_moves
>>> possible_moves(((0, 1), (1, 2)), ((0, 5), (0, 0)))
raises InvalidState(reason=('room', 1))
""",
    # [20]
    """
>>> from lastthrough.houses import check_house
>>> check_house(((0, 1), (1, 0)))
('ring', 1)
""",
    # [21]
    """
>>> from lastthrough.houses import path_between
>>> path_between(((0, 1), (1, 2)), 2, 0)
[1, 0]
""",
    # [22]
    """
>>> from lastthrough.houses import far_side
>>> far_side(((0, 1), (0, 2), (0, 3)), 0, 1)
[0, 2, 3]
""",
    # [30]
    """
>>> from lastthrough.states import check_state
>>> check_state(((0, 1), (1, 2)), ((0, 2), (0, 2)))
('barred', 1)
""",
    # [31]
    """
>>> from lastthrough.states import check_plan
>>> check_plan(((0, 1), (1, 2)), 2, [(0, 0, 1), (0, 0, 2)])
('move', 1)
""",
    # [32]
    """
>>> from lastthrough.states import possible_moves
>>> possible_moves(((0, 1), (1, 2)), ((0, 2), (1, 0)))
[(0, 0, 1), (1, 2, 1)]
""",
    # [33]
    """
>>> from lastthrough.states import play
>>> play(((0, 1), (1, 2)), ((0, 2), (1, 0)), [(0, 0, 1), (1, 2, 1)])
((1, 1), (0, 1))
""",
    """
>>> from lastthrough.states import play
>>> play(((0, 1), (1, 2)), ((0, 2), (1, 0)), [(0, 0, 1), (0, 1, 2)])
raises MoveBlocked(index=1, reason=('barred',))
""",
    # [40]
    """
>>> from lastthrough.regions import region
>>> region(((0, 1), (1, 2)), ((0, 2), (1, 0)), 0)
[0, 1]
""",
    # [41]
    """
>>> from lastthrough.regions import walk_to
>>> walk_to(((0, 1), (1, 2)), ((0, 2), (1, 1)), 0, 2)
[(0, 0, 1), (0, 1, 2)]
""",
    # [42]
    """
>>> from lastthrough.regions import is_apart
>>> is_apart(((0, 1), (0, 2), (0, 3)), ((1, 2, 3), (0, 1, 2)))
True
""",
    # [43]
    """
>>> from lastthrough.regions import walk_lengths
>>> walk_lengths(((0, 1), (1, 2), (2, 3), (2, 4)), ((0, 2), (0, 1, 0, 0)))
[(0, 0), (1, 1)]
""",
    # [45]
    """
>>> from lastthrough.meetings import first_meeting
>>> first_meeting(((0, 1), (1, 2)), ((0, 2), (1, 0)))[0]
2
""",
    # [46]
    """
>>> from lastthrough.meetings import check_first_meeting
>>> check_first_meeting(((0, 1), (1, 2)), ((0, 2), (1, 0)), (1, [(0, 0, 1)]))
('meeting',)
""",
    # [47]
    """
>>> from lastthrough.meetings import gather
>>> gather(((0, 1), (0, 2), (0, 3)), ((1, 2, 3), (0, 1, 2)), 0)
('apart', [[1], [2], [3]])
""",
    # [48]
    """
>>> from lastthrough.meetings import check_gathering
>>> check_gathering(((0, 1), (1, 2)), ((0, 2), (1, 0)), 1, ("apart", [[0, 1], [1, 2]]))
('together',)
""",
    # [50]
    """
>>> from lastthrough.origins import groups
>>> groups(((0, 1), (0, 2), (0, 3)), ((1, 2, 3), (0, 0, 1)))
[[0, 1, 2, 3]]
""",
    """
>>> from lastthrough.origins import groups
>>> groups(((0, 1), (1, 2)), ((2, 0), (0, 1)))
[[0], [1], [2]]
""",
    # [51]
    """
>>> from lastthrough.origins import explained_doors
>>> explained_doors(((0, 1), (1, 2)), ((1, 2), (0, 0)))
[0, 1]
""",
    # [52]
    """
>>> from lastthrough.origins import count_previous
>>> count_previous(((0, 1), (1, 2)), ((1, 2), (0, 0)))
2
""",
    """
>>> from lastthrough.origins import previous_at
>>> previous_at(((0, 1), (1, 2)), ((1, 2), (0, 0)), 1)
((2, 2), (0, 1))
""",
    """
>>> from lastthrough.origins import previous_index
>>> previous_index(((0, 1), (1, 2)), ((1, 2), (0, 0)), ((0, 2), (1, 0)))
0
""",
    # [60]
    """
>>> from lastthrough.reach import find_plan
>>> find_plan(((0, 1), (1, 2)), ((0, 2), (1, 0)), ((1, 1), (0, 1)))[0]
'plan'
""",
    """
>>> from lastthrough.reach import find_plan
>>> find_plan(((0, 1),), ((0, 0), (0,)), ((0, 0), (1,)))
('never', ('bit', 0))
""",
    # [61]
    """
>>> from lastthrough.reach import find_plan
>>> find_plan(((0, 1), (1, 2), (2, 3), (3, 4)), ((0, 2, 4), (2, 1, 2, 0)), ((0, 2, 4), (0, 1, 2, 0)))
('never', ('order', 0, 1))
""",
    """
>>> from lastthrough.reach import find_plan
>>> find_plan(((0, 1),), ((0,), (0,)), ((1,), (0,)))
('never', ('walk', 0))
""",
    """
>>> from lastthrough.reach import find_plan
>>> find_plan(((0, 1), (1, 2), (2, 3)), ((0, 3), (1, 1, 0)), ((0, 3), (0, 1, 0)))
('never', ('still', 0))
""",
    # [62]
    """
>>> from lastthrough.reach import check_reach
>>> check_reach(((0, 1), (1, 2)), ((1, 1), (0, 1)), ((2, 0), (0, 1)), ("never", ("person", 1, 0)))
None
""",
    # [70]
    """
>>> from lastthrough.pairs import kept_bits
>>> kept_bits(((0, 1), (1, 2)), ((0, 1), (0, 0)))
(1, 0)
""",
    # [71]
    """
>>> from lastthrough.pairs import state_of_bits
>>> state_of_bits(((0, 1), (1, 2)), (1, 0), 0, 1)
((0, 1), (0, 0))
""",
    # [72]
    """
>>> from lastthrough.pairs import can_meet
>>> can_meet(((0, 1), (1, 2)), (1, 0), 0, 2)
False
""",
    # [73]
    """
>>> from lastthrough.pairs import can_follow
>>> can_follow(((0, 1), (1, 2)), (1, 0), 0, 2)
True
""",
    # [74]
    """
>>> from lastthrough.pairs import count_pairs
>>> count_pairs(((0, 1), (1, 2)), (1, 0))
(8, 8, 7)
""",
    # [75]
    """
>>> from lastthrough.pairs import pair_distance
>>> pair_distance(((0, 1),), ((0, 0), (0,)), ((1, 1), (0,)))
2
""",
    # [78]
    """
>>> from lastthrough.search import shortest_plan
>>> shortest_plan(((0, 1),), ((0, 0), (0,)), ((1, 1), (0,)))
[(1, 0, 1), (0, 0, 1)]
""",
    # [80]
    """
>>> from lastthrough.counting import count_states
>>> count_states(((0, 1), (1, 2)), 2)
36
""",
    """
>>> from lastthrough.counting import count_apart
>>> count_apart(((0, 1), (1, 2)), 2)
2
""",
    """
>>> from lastthrough.counting import count_frozen
>>> count_frozen(((0, 1), (0, 2), (0, 3)), 3)
6
""",
    # [81]
    """
>>> from lastthrough.counting import count_following
>>> count_following(((0, 1), (1, 2), (2, 3), (2, 4)), ((0, 2), (0, 1, 0, 0)))
3
""",
    # [82]
    """
>>> from lastthrough.walks import count_plans
>>> count_plans(((0, 1), (1, 2), (2, 3), (2, 4)), ((0, 2), (0, 1, 0, 0)), 1)
2
""",
    """
>>> from lastthrough.walks import plan_at
>>> plan_at(((0, 1),), ((0, 0), (0,)), 2, 0)
[(1, 0, 1), (0, 0, 1)]
""",
    # [85]
    """
>>> from lastthrough.openings import fewest_openings
>>> fewest_openings(((0, 1), (0, 2), (0, 3)), ((1, 2, 3), (0, 1, 2)))[0]
1
""",
    # [86]
    """
>>> from lastthrough.openings import check_openings
>>> check_openings(((0, 1), (0, 2), (0, 3)), ((1, 2, 3), (0, 1, 2)), (1, [(0, 0)]))
('same', 0)
""",
    # [90]
    """
>>> from lastthrough.effects import plan_effect
>>> plan_effect(((0, 1), (1, 2)), 2, [(1, 2, 1), (0, 0, 1), (1, 1, 0)])
([(0, 0, 1), (1, 2, 0)], [(0, 0, 1), (1, 1, 1)])
""",
    # [91]
    """
>>> from lastthrough.effects import compare_plans
>>> compare_plans(((0, 1), (1, 2)), 2, [(0, 0, 1), (1, 2, 1)], [(1, 2, 1), (0, 0, 1)])
('same',)
""",
    # [92]
    """
>>> from lastthrough.effects import check_comparison
>>> check_comparison(((0, 1), (1, 2)), 2, [], [(0, 0, 1)], ("different", ((2, 2), (1, 1))))
None
""",
    # [93]
    """
>>> from lastthrough.effects import count_playable
>>> count_playable(((0, 1), (1, 2)), 2, [(0, 0, 1)])
6
""",
    # [95]
    """
>>> from lastthrough.orders import normal_form
>>> normal_form(((0, 1), (1, 2)), 2, [(1, 2, 1), (0, 0, 1), (1, 1, 0)])
[(0, 0, 1), (1, 2, 1), (1, 1, 0)]
""",
    # [96]
    """
>>> from lastthrough.orders import count_rearrangements
>>> count_rearrangements(((0, 1), (1, 2)), 2, [(0, 0, 1), (1, 2, 1)])
2
""",
    # [97]
    """
>>> from lastthrough.rounds import check_schedule
>>> check_schedule(((0, 1), (1, 2)), 2, [[(0, 0, 1)], []])
('round', 1)
""",
    # [98]
    """
>>> from lastthrough.rounds import play_rounds
>>> play_rounds(((0, 1), (1, 2)), ((0, 2), (1, 0)), [[(0, 0, 1), (1, 2, 1)]])
((1, 1), (0, 1))
""",
    # [99]
    """
>>> from lastthrough.rounds import schedule_of
>>> schedule_of(((0, 1), (1, 2)), 2, [(1, 2, 1), (0, 0, 1), (1, 1, 0)])
[[(0, 0, 1), (1, 2, 1)], [(1, 1, 0)]]
""",
    # [100]
    """
>>> from lastthrough.rounds import first_meeting_round
>>> first_meeting_round(((0, 1), (1, 2)), ((0, 2), (1, 0)))
(1, [[(0, 0, 1), (1, 2, 1)]])
""",
    # [101]
    """
>>> from lastthrough.rounds import check_meeting_round
>>> check_meeting_round(((0, 1), (1, 2)), ((0, 2), (1, 0)), (2, [[(0, 0, 1)], [(1, 2, 1)]]))
('number',)
""",
    # [114]
    """
>>> from lastthrough.sessions import Session
>>> session = Session(((0, 1), (1, 2)), ((0, 2), (1, 0)))
>>> here = session.go(0, 1)
>>> session.undo()
>>> [session.state() == here, session.moves(), len(session)]
[False, [], 0]
""",
)


def outcome(statements):
    """Run the statements and return the last one's result, or its error, as the document writes it."""
    names = {}
    for statement in statements[:-1]:
        exec(statement, names)
    try:
        return repr(eval(statements[-1], names))
    except errors.LastThroughError as error:
        fields = ", ".join(f"{name}={worth!r}" for name, worth in vars(error).items())
        return f"raises {error.__class__.__name__}({fields})"


class TestExamples(unittest.TestCase):

    def test_examples(self):
        for example in EXAMPLES:
            lines = example.strip().split("\n")
            statements = [line.removeprefix(">>> ") for line in lines[:-1]]
            with self.subTest(example=statements[-1]):
                self.assertEqual(outcome(statements), lines[-1])


if __name__ == "__main__":
    unittest.main()
