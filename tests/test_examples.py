"""The examples of the document, word for word."""

import unittest

from lastthrough import errors

EXAMPLES = (
    # [10]
    """
>>> from lastthrough.states import possible_moves
>>> possible_moves(((0, 1), (1, 2)), ((0, 5), (0, 0)))
raises InvalidState(reason=('room', 1))
""",
    # [20]
    """
>>> from lastthrough.houses import check_house
>>> check_house(((0, 1), (1, 0)))
('ring', 1)
""",
    # [21]
    """
>>> from lastthrough.houses import path_between
>>> path_between(((0, 1), (1, 2)), 2, 0)
[1, 0]
""",
    # [22]
    """
>>> from lastthrough.houses import far_side
>>> far_side(((0, 1), (0, 2), (0, 3)), 0, 1)
[0, 2, 3]
""",
    # [30]
    """
>>> from lastthrough.states import check_state
>>> check_state(((0, 1), (1, 2)), ((0, 2), (0, 2)))
('barred', 1)
""",
    # [31]
    """
>>> from lastthrough.states import check_plan
>>> check_plan(((0, 1), (1, 2)), 2, [(0, 0, 1), (0, 0, 2)])
('move', 1)
""",
    # [32]
    """
>>> from lastthrough.states import possible_moves
>>> possible_moves(((0, 1), (1, 2)), ((0, 2), (1, 0)))
[(0, 0, 1), (1, 2, 1)]
""",
    # [33]
    """
>>> from lastthrough.states import play
>>> play(((0, 1), (1, 2)), ((0, 2), (1, 0)), [(0, 0, 1), (1, 2, 1)])
((1, 1), (0, 1))
""",
    """
>>> from lastthrough.states import play
>>> play(((0, 1), (1, 2)), ((0, 2), (1, 0)), [(0, 0, 1), (0, 1, 2)])
raises MoveBlocked(index=1, reason=('barred',))
""",
    # [40]
    """
>>> from lastthrough.regions import region
>>> region(((0, 1), (1, 2)), ((0, 2), (1, 0)), 0)
[0, 1]
""",
    # [41]
    """
>>> from lastthrough.regions import walk_to
>>> walk_to(((0, 1), (1, 2)), ((0, 2), (1, 1)), 0, 2)
[(0, 0, 1), (0, 1, 2)]
""",
    # [42]
    """
>>> from lastthrough.regions import is_apart
>>> is_apart(((0, 1), (0, 2), (0, 3)), ((1, 2, 3), (0, 1, 2)))
True
""",
    # [43]
    """
>>> from lastthrough.regions import walk_lengths
>>> walk_lengths(((0, 1), (1, 2), (2, 3), (2, 4)), ((0, 2), (0, 1, 0, 0)))
[(0, 0), (1, 1)]
""",
)


def outcome(statements):
    """Run the statements and return the last one's result, or its error, as the document writes it."""
    names = {}
    for statement in statements[:-1]:
        exec(statement, names)
    try:
        return repr(eval(statements[-1], names))
    except errors.LastThroughError as error:
        fields = ", ".join(f"{name}={worth!r}" for name, worth in vars(error).items())
        return f"raises {error.__class__.__name__}({fields})"


class TestExamples(unittest.TestCase):

    def test_examples(self):
        for example in EXAMPLES:
            lines = example.strip().split("\n")
            statements = [line.removeprefix(">>> ") for line in lines[:-1]]
            with self.subTest(example=statements[-1]):
                self.assertEqual(outcome(statements), lines[-1])


if __name__ == "__main__":
    unittest.main()
