"""Houses, states and wrong values for the tests, and answers straight from the definitions."""

import collections
import functools
import itertools
import random
import time
import unittest

from lastthrough import errors
from lastthrough.regions import is_apart

ROW3 = ((0, 1), (1, 2))
STAR4 = ((0, 1), (0, 2), (0, 3))
FORK5 = ((0, 1), (1, 2), (2, 3), (2, 4))

BAD_HOUSES = (
    (list(ROW3), ("shape",)),
    (None, ("shape",)),
    (((0, 1), [1, 2]), ("door", 1)),
    (((0, 1), (1, True)), ("door", 1)),
    (((0, 1), (1, 0)), ("ring", 1)),
)

NOT_WHOLE = (None, True, False, 0.0, 1.0, "0", "", b"0", [], [0], (), (0,), {}, {0: 0})
HUGE = 10 ** 899

# No plans for two people in ROW3.
NO_PLANS = (
    None, True, 0, "plan", (), ((0, 0, 1),), {}, [None], [0], [[0, 0, 1]], [(0, 0)], [(0, 0, 1, 1)], [(0, 0, 2)],
    [(0, 0, 0)], [(2, 0, 1)], [(-1, 0, 1)], [(False, 0, 1)], [(0, False, 1)], [(0, 0, True)], [(0, 0, 1.0)],
    [(0, 0, "1")], [(0, 1, 3)], [(0, 0, HUGE)], [(0, 0, 1), (1, 2, 1), (1, 2)])


def row_house(rooms):
    return tuple((room, room + 1) for room in range(rooms - 1))


def star_house(rooms):
    return tuple((0, room) for room in range(1, rooms))


def comb_house(rooms):
    """A row of the even rooms, with the odd rooms as its teeth."""
    return tuple((max(0, room - 1 if room & 1 else room - 2), room) for room in range(1, rooms))


def random_house(rng, rooms):
    names = list(range(rooms))
    rng.shuffle(names)
    doors = []
    for place in range(1, rooms):
        ends = [names[place], names[rng.randrange(place)]]
        rng.shuffle(ends)
        doors.append(tuple(ends))
    rng.shuffle(doors)
    return tuple(doors)


def random_state(rng, house, people):
    rooms = tuple(rng.randrange(len(house) + 1) for _ in range(people))
    return rooms, tuple(rng.randrange(people) for _ in house)


def sample_houses():
    """Houses of several shapes and sizes, the same ones each time."""
    rng = random.Random(7)
    houses = [(), ((1, 0),), ROW3, STAR4, FORK5, row_house(30), star_house(30), comb_house(30)]
    return houses + [random_house(rng, rooms) for rooms in (3, 4, 5, 6, 8, 12, 20, 30)]


def sample_states():
    """Pairs of a house and a state of one to six people."""
    rng = random.Random(11)
    samples = []
    for house in sample_houses():
        for people in range(1, 7):
            samples.extend((house, random_state(rng, house, people)) for _ in range(3))
    return samples


def all_states(house, people):
    rooms = itertools.product(range(len(house) + 1), repeat=people)
    barred = itertools.product(range(people), repeat=len(house))
    return list(itertools.product(rooms, barred))


def moves_by_definition(house, state):
    rooms, barred = state
    moves = []
    for person, start in enumerate(rooms):
        for door, (a, b) in enumerate(house):
            if start in (a, b) and barred[door] != person:
                moves.append((person, start, a + b - start))
    return sorted(moves)


def state_after(house, state, move):
    person, start, end = move
    rooms = list(state[0])
    rooms[person] = end
    barred = [person if set(ends) == {start, end} else who for who, ends in zip(state[1], house)]
    return tuple(rooms), tuple(barred)


def random_plan(rng, house, people, length):
    """A plan of doors and people by chance, which hardly ever can be played."""
    return [(rng.randrange(people), *rng.sample(rng.choice(house), 2)) for _ in range(length)]


def playable_plan(rng, house, state, length):
    """A plan by chance that can be played, as long as something is possible, and the state after it."""
    plan = []
    here = state
    while len(plan) < length:
        moves = moves_by_definition(house, here)
        if not moves:
            break
        plan.append(rng.choice(moves))
        here = state_after(house, here, plan[-1])
    return plan, here


def swing_plan(length):
    """Two people who go to and fro through door (0, 1), person 0 always first."""
    turns = ((0, 0, 1), (1, 0, 1), (0, 1, 0), (1, 1, 0))
    return [turns[index % 4] for index in range(length)]


def outcome_by_definition(house, state, plan):
    """The state after the plan, or None if it cannot be played from the state."""
    here = state
    for move in plan:
        if move not in moves_by_definition(house, here):
            return None
        here = state_after(house, here, move)
    return here


def can_be_exchanged(move, other):
    """Whether two moves are by different people through different doors."""
    return move[0] != other[0] and set(move[1:]) != set(other[1:])


def rearrangements(plan):
    """All rearrangements of the plan, in sorted order."""
    found = {tuple(plan)}
    waiting = list(found)
    while waiting:
        here = waiting.pop()
        for at in range(len(here) - 1):
            if can_be_exchanged(here[at], here[at + 1]):
                there = (*here[:at], here[at + 1], here[at], *here[at + 2:])
                if there not in found:
                    found.add(there)
                    waiting.append(there)
    return [list(other) for other in sorted(found)]


def rearranged(rng, plan, exchanges):
    """The plan after some of its exchanges by chance."""
    plan = list(plan)
    for at in rng.choices(range(max(1, len(plan) - 1)), k=exchanges):
        if len(plan) > 1 and can_be_exchanged(plan[at], plan[at + 1]):
            plan[at:at + 2] = plan[at + 1], plan[at]
    return plan


def lasting_plan(rng, house, state, length):
    """A plan by chance from a together state that never brings the people apart, so that it can get so long."""
    plan = []
    here = state
    while len(plan) < length:
        move = rng.choice(moves_by_definition(house, here))
        after = state_after(house, here, move)
        if not is_apart(house, after):
            plan.append(move)
            here = after
    return plan


@functools.lru_cache(None)
def large_plans():
    """The largest houses with states of the most people and plans of 2,000 moves that can be played from them."""
    rng = random.Random(163)
    found = []
    for house in (row_house(30), star_house(30), comb_house(30), random_house(rng, 30)):
        state = (0,) * 6, tuple(rng.randrange(6) for _ in house)
        found.append((house, state, lasting_plan(rng, house, state, 2000)))
    return found


def walks_by_definition(house, state, person):
    """All plans in which only this person moves, each with the state after it."""
    walks = []
    waiting = [([], state)]
    while waiting:
        plan, here = waiting.pop()
        walks.append((plan, here))
        for move in moves_by_definition(house, here):
            if move[0] == person:
                waiting.append((plan + [move], state_after(house, here, move)))
    return walks


def region_by_definition(house, state, person):
    found = {state[0][person]}
    grown = True
    while grown:
        more = {room for door, ends in enumerate(house) if state[1][door] != person
                for room in ends if found & set(ends)}
        grown = not more <= found
        found |= more
    return sorted(found)


def apart_by_definition(house, state):
    regions = [region_by_definition(house, state, person) for person in range(len(state[0]))]
    return len({room for rooms in regions for room in rooms}) == sum(len(rooms) for rooms in regions)


def row_apart(people):
    """A row of 30 rooms in which each person goes straight through three more rooms and meets nobody."""
    barred = [(door // 5 + 1) % people for door in range(29)]
    for door in range(29):
        if door % 5 == 3:
            barred[door] = min(door // 5, people - 1)
        if door % 5 == 4:
            barred[door] = min(door // 5 + 1, people - 1)
    return row_house(30), (tuple(range(0, 5 * people, 5)), tuple(barred))


def search(house, start):
    """The fewest moves to each state that can come about from the start."""
    moves = {start: 0}
    waiting = collections.deque(moves)
    while waiting:
        here = waiting.popleft()
        for move in moves_by_definition(house, here):
            after = state_after(house, here, move)
            if after not in moves:
                moves[after] = moves[here] + 1
                waiting.append(after)
    return moves


@functools.lru_cache(None)
def sides_by_definition(house, door):
    """The two sides of the door, that of its first end first."""
    near = {house[door][0]}
    grown = True
    while grown:
        more = {room for other, ends in enumerate(house) if other != door and near & set(ends) for room in ends}
        grown = not more <= near
        near |= more
    return near, set(range(len(house) + 1)) - near


def path_by_definition(house, a, b):
    """The doors that have the two rooms on different sides, in the order of the way from a to b."""
    between = [(len(near if a in near else far), door) for door in range(len(house))
               for near, far in [sides_by_definition(house, door)] if (a in near) != (b in near)]
    return [door for _, door in sorted(between)]


def groups_by_definition(house, state):
    """The set of the final groups, each a frozen set of rooms."""
    groups = {frozenset([room]) for room in range(len(house) + 1)}
    joined = True
    while joined:
        joined = False
        for door, (a, b) in enumerate(house):
            one, = (group for group in groups if a in group)
            other, = (group for group in groups if b in group)
            if one != other and state[0][state[1][door]] in one | other:
                groups = groups - {one, other} | {one | other}
                joined = True
    return groups


def quick(call, *arguments):
    """The result of a call that must not take long."""
    began = time.perf_counter()
    result = call(*arguments)
    took = time.perf_counter() - began
    if took > 5:
        raise AssertionError(f"{call.__name__} took {took:.1f} seconds")
    return result


def reason_of_plan(people, plan):
    """The reason why a value is no plan for so many people in ROW3."""
    if not isinstance(plan, list):
        return ("plan",)
    moves = {(who, *ends) for who in range(people) for a, b in ROW3 for ends in ((a, b), (b, a))}
    for index, move in enumerate(plan):
        if repr(move) not in {repr(good) for good in moves}:
            return ("move", index)
    return None


class ErrorCase(unittest.TestCase):
    """A test case that can also tell the fields of errors."""

    def assert_plan_errors(self, call, *more):
        """The errors of a call with a house, a number of people and a plan, in their order."""
        for house, reason in BAD_HOUSES:
            for people, plan in ((2, []), (0, None), (None, None)):
                self.assert_error(errors.InvalidHouse, {"reason": reason}, call, house, people, plan, *more)
        for people in NOT_WHOLE + (0, -1, -HUGE, 2.0, "2"):
            for plan in ([], None, [None], [(5, 0, 1)]):
                self.assert_error(errors.InvalidCount, {}, call, ROW3, people, plan, *more)
        for plan in NO_PLANS:
            reason = reason_of_plan(2, plan)
            self.assertIsNotNone(reason)
            self.assert_error(errors.InvalidPlan, {"reason": reason}, call, ROW3, 2, plan, *more)
        self.assert_error(errors.InvalidPlan, {"reason": ("move", 0)}, call, ROW3, 1, [(1, 0, 1)], *more)
        self.assert_error(errors.InvalidPlan, {"reason": ("move", 0)}, call, (), 2, [(0, 0, 1)], *more)

    def assert_error(self, error, fields, call, *arguments, **named):
        with self.assertRaises(Exception) as caught:
            call(*arguments, **named)
        self.assertIs(caught.exception.__class__, error)
        self.assertEqual(repr(vars(caught.exception)), repr(fields))
