"""Promises [60] to [62]: reachability."""

import itertools
import random
import unittest

from lastthrough.errors import InvalidHouse, InvalidState
from lastthrough.reach import check_reach, find_plan
from lastthrough.states import check_plan, play
from tests.helpers import (
    FORK5, HUGE, NOT_WHOLE, ROW3, STAR4, ErrorCase, all_states, comb_house, groups_by_definition, moves_by_definition,
    path_by_definition, quick, random_house, random_state, region_by_definition, row_house, sample_houses, search,
    star_house, state_after)

ROW4 = row_house(4)
ROW5 = row_house(5)
ROW6 = row_house(6)

MEETING = ((0, 2), (1, 0))
MET = ((1, 1), (0, 1))

WORDS = ("door", "person", "bit", "order", "walk", "still")

BAD_STATES = (
    (None, ("shape",)),
    ([(0, 2), (1, 0)], ("shape",)),
    (((0, 2), [1, 0]), ("shape",)),
    (((0, 3), (1, 2)), ("room", 1)),
    (((False, 2), (1, 0)), ("room", 0)),
    (((0, 2), (1, 2)), ("barred", 1)),
)

# Starts and targets in which groups have one or two members, doors bar people from outside, or both.
CHOSEN = (
    (ROW5, ((0, 2, 4), (2, 1, 2, 0)), ((0, 2, 4), (0, 1, 2, 0))),
    (ROW5, ((0, 2, 4), (2, 2, 2, 0)), ((0, 2, 4), (0, 1, 2, 0))),
    (ROW5, ((0, 2, 4), (2, 2, 2, 0)), ((1, 1, 4), (0, 1, 2, 0))),
    (ROW5, ((0, 2, 4), (2, 2, 2, 0)), ((1, 1, 4), (1, 0, 2, 0))),
    (ROW5, ((2, 0, 4), (2, 2, 2, 0)), ((0, 2, 4), (0, 1, 2, 0))),
    (ROW5, ((2, 0, 4), (1, 0, 2, 0)), ((2, 0, 4), (1, 0, 2, 0))),
    (ROW5, ((0, 3, 4), (2, 0, 2, 0)), ((0, 3, 4), (0, 0, 1, 1))),
    (ROW5, ((0, 3, 4), (2, 2, 1, 0)), ((3, 3, 4), (0, 0, 0, 2))),
    (ROW5, ((0, 3, 4), (2, 2, 0, 0)), ((2, 3, 4), (0, 0, 1, 2))),
    (ROW5, ((0, 3, 4), (0, 1, 1, 2)), ((0, 3, 4), (0, 1, 1, 2))),
    (ROW5, ((0, 3, 4), (2, 1, 1, 2)), ((0, 3, 4), (0, 1, 1, 2))),
    (ROW5, ((1, 3, 3), (1, 0, 1, 2)), ((0, 3, 3), (0, 0, 1, 2))),
    (ROW4, ((0, 3), (1, 1, 0)), ((0, 3), (0, 1, 0))),
    (ROW4, ((0, 3), (0, 0, 1)), ((0, 3), (1, 1, 0))),
    (ROW4, ((0, 3, 3), (0, 2, 1)), ((0, 2, 2), (0, 1, 2))),
    (STAR4, ((1, 2, 3), (1, 0, 2)), ((2, 1, 3), (1, 0, 2))),
    (STAR4, ((1, 2, 3), (2, 2, 2)), ((2, 1, 3), (1, 0, 2))),
    (STAR4, ((1, 2, 3), (0, 1, 0)), ((1, 2, 0), (0, 1, 2))),
    (STAR4, ((1, 2, 3), (0, 1, 2)), ((1, 2, 3), (0, 1, 2))),
    (STAR4, ((0, 2, 3), (1, 1, 2)), ((1, 2, 3), (0, 1, 2))),
    (FORK5, ((0, 4, 3), (2, 2, 2, 2)), ((1, 2, 3), (0, 1, 2, 1))),
    (FORK5, ((1, 1, 3), (2, 0, 2, 0)), ((0, 2, 3), (0, 1, 2, 1))),
)


class ByDefinition:
    """What [61] says of a start and a target, straight from its words."""

    def __init__(self, house, start, target):
        self.house, self.start, self.target = house, start, target
        self.groups = groups_by_definition(house, target)

    def explained(self, door):
        return any(set(self.house[door]) <= group for group in self.groups)

    def group_of_door(self, door):
        return next(group for group in self.groups if set(self.house[door]) <= group)

    def members(self, group):
        return [person for person, room in enumerate(self.target[0]) if room in group]

    def doors(self, group):
        return [door for door, ends in enumerate(self.house) if set(ends) <= group]

    def all_start_in(self, group):
        return all(self.start[0][person] in group for person in self.members(group))

    def inner_region(self, group, person):
        found = {self.start[0][person]} & group
        for _ in self.house:
            for door in self.doors(group):
                if self.start[1][door] != person and found & set(self.house[door]):
                    found |= set(self.house[door])
        return found

    def split(self, group):
        regions = [self.inner_region(group, person) for person in self.members(group)]
        return self.all_start_in(group) and sum(map(len, regions)) == len(set().union(*regions))

    def inner_bit(self, state, door, members):
        p, q = members
        same_side = door not in path_by_definition(self.house, state[0][p], state[0][q])
        return state[1][door] if same_side else p + q - state[1][door]

    def path(self, person):
        return path_by_definition(self.house, self.start[0][person], self.target[0][person])

    def applies(self, reason):
        return getattr(self, reason[0])(*reason[1:])

    def door(self, d):
        return not self.explained(d) and self.start[1][d] != self.target[1][d]

    def person(self, p, d):
        return not self.explained(d) and d in self.path(p)

    def bit(self, d):
        if not self.explained(d):
            return False
        members = self.members(self.group_of_door(d))
        return len(members) == 2 and self.start[1][d] in members and (
            self.inner_bit(self.start, d, members) != self.inner_bit(self.target, d, members))

    def order(self, d, e):
        if not self.explained(d) or not self.explained(e) or self.group_of_door(d) != self.group_of_door(e):
            return False
        group = self.group_of_door(d)
        members = self.members(group)
        if len(members) != 2 or not self.all_start_in(group) or self.split(group):
            return False
        path = path_by_definition(self.house, self.start[0][members[0]], self.start[0][members[1]])
        return d in path and e in path and path.index(d) < path.index(e) and (
            self.inner_bit(self.target, d, members) == members[1]
            and self.inner_bit(self.target, e, members) == members[0])

    def walk(self, p):
        group = next(group for group in self.groups if self.target[0][p] in group)
        return self.split(group) and (
            self.target[0][p] not in self.inner_region(group, p)
            or any(self.target[1][door] != p for door in self.path(p)))

    def still(self, d):
        return self.explained(d) and self.split(self.group_of_door(d)) and (
            all(d not in self.path(person) for person in self.members(self.group_of_door(d)))
            and self.start[1][d] != self.target[1][d])


def all_reasons(house, people):
    """Everything that has the form of a reason."""
    doors = range(len(house))
    found = [(word, door) for word in ("door", "bit", "still") for door in doors]
    found.extend(("order", d, e) for d in doors for e in doors)
    found.extend(("walk", person) for person in range(people))
    return found + [("person", person, door) for person in range(people) for door in doors]


def changed_state(rng, house, state):
    """The state with another room of one person, or another person whom one door bars."""
    rooms, barred = map(list, state)
    if rng.random() < 0.3 or not house:
        rooms[rng.randrange(len(rooms))] = rng.randrange(len(house) + 1)
    else:
        barred[rng.randrange(len(house))] = rng.randrange(len(rooms))
    return tuple(rooms), tuple(barred)


def wander(rng, house, state, length):
    """A state that can come about, by moves by chance."""
    for _ in range(length):
        moves = moves_by_definition(house, state)
        if not moves:
            break
        state = state_after(house, state, rng.choice(moves))
    return state


def searched_cases():
    """Houses, starts and targets with the result of a search from the start."""
    rng = random.Random(47)
    for house, people in (((), 1), ((), 3), (((1, 0),), 1), (((1, 0),), 2), (((1, 0),), 3), (ROW3, 1), (ROW3, 2)):
        for start in all_states(house, people):
            moves = search(house, start)
            for target in all_states(house, people):
                yield house, start, target, moves
    turned = ((3, 1), (0, 2), (1, 2))
    for house, people in ((ROW3, 3), (ROW3, 4), (STAR4, 2), (STAR4, 3), (ROW4, 3), (turned, 2), (FORK5, 2)):
        for _ in range(12):
            start = random_state(rng, house, people)
            moves = search(house, start)
            targets = [random_state(rng, house, people) for _ in range(15)] + rng.choices(list(moves), k=15)
            for target in targets + [changed_state(rng, house, target) for target in targets]:
                yield house, start, target, moves
    for house, start, target in split_cases():
        yield house, start, target, search(house, start)
    for house, start, target in CHOSEN:
        moves = search(house, start)
        for other in [start, target] + [changed_state(rng, house, target) for _ in range(20)]:
            yield house, start, other, moves


def is_apart(house, state):
    regions = [region_by_definition(house, state, person) for person in range(len(state[0]))]
    return len({room for region in regions for room in region}) == sum(map(len, regions))


def apart_state(rng, house, people):
    """A state by chance that is apart: most doors bar the person who is nearest."""
    while True:
        rooms, barred = map(list, random_state(rng, house, people))
        for door, (a, b) in enumerate(house):
            if rng.random() < 0.7:
                ways = [path_by_definition(house, a, room) + path_by_definition(house, b, room) for room in rooms]
                barred[door] = ways.index(min(ways, key=len))
        if is_apart(house, (tuple(rooms), tuple(barred))):
            return tuple(rooms), tuple(barred)


def split_cases():
    """Starts that are apart, and targets that can come about from them or nearly can."""
    rng = random.Random(101)
    sizes = ((ROW4, 2), (ROW5, 2), (FORK5, 2), (STAR4, 3), (ROW6, 3), (comb_house(8), 3), (row_house(9), 4))
    for house, people in sizes:
        for _ in range(20):
            start = apart_state(rng, house, people)
            target = wander(rng, house, start, rng.randrange(4))
            yield house, start, target
            yield house, start, changed_state(rng, house, target)


def large_cases():
    """Starts and targets in larger houses, the targets mostly such that can come about."""
    rng = random.Random(53)
    for house in sample_houses() * 2:
        for people in range(1, 7):
            start = random_state(rng, house, people)
            target = wander(rng, house, start, rng.choice((0, 1, 4, 30, 200)))
            yield house, start, target, True
            yield house, start, changed_state(rng, house, target), False


class ReachCase(ErrorCase):

    def assert_leads(self, house, start, target, found):
        word, plan = found
        self.assertIs(found.__class__, tuple)
        self.assertEqual(word, "plan")
        self.assertIsNone(check_plan(house, len(start[0]), plan))
        self.assertLessEqual(len(plan), 20000)
        self.assertEqual(play(house, start, plan), target)

    def assert_never(self, house, start, target, found):
        word, reason = found
        self.assertIs(found.__class__, tuple)
        self.assertEqual(word, "never")
        self.assertIn(reason, all_reasons(house, len(start[0])))
        self.assertTrue(ByDefinition(house, start, target).applies(reason))


class TestFindPlan(ReachCase):

    def test_row(self):
        self.assert_leads(ROW3, MEETING, MET, find_plan(ROW3, MEETING, MET))
        for target in (((0, 0), (0, 1)), ((2, 2), (0, 1)), ((2, 0), (1, 0))):
            self.assert_leads(ROW3, MEETING, target, find_plan(ROW3, MEETING, target))
        for target in (((1, 1), (1, 1)), ((1, 1), (0, 0)), ((0, 2), (0, 1)), ((0, 0), (1, 0))):
            self.assert_never(ROW3, MEETING, target, find_plan(ROW3, MEETING, target))

    def test_target_that_is_the_start(self):
        rng = random.Random(59)
        for house in sample_houses():
            for people in range(1, 7):
                state = random_state(rng, house, people)
                self.assert_leads(house, state, state, find_plan(house, state, state))

    def test_one_room(self):
        self.assert_leads((), ((0,), ()), ((0,), ()), find_plan((), ((0,), ()), ((0,), ())))
        self.assert_leads((), ((0, 0, 0), ()), ((0, 0, 0), ()), find_plan((), ((0, 0, 0), ()), ((0, 0, 0), ())))

    def test_one_person(self):
        self.assertEqual(find_plan(ROW3, ((0,), (0, 0)), ((2,), (0, 0))), ("never", ("walk", 0)))
        self.assert_leads(ROW3, ((1,), (0, 0)), ((1,), (0, 0)), find_plan(ROW3, ((1,), (0, 0)), ((1,), (0, 0))))

    def test_two_people_in_one_room(self):
        for house in (ROW3, STAR4, FORK5, row_house(6)):
            last = len(house)
            for barred in itertools.islice(itertools.product((0, 1), repeat=last), 0, None, 3):
                start = ((0, 0), barred)
                self.assert_leads(house, start, ((last, last), barred), find_plan(house, start, ((last, last), barred)))
                for door in range(last):
                    other = barred[:door] + (1 - barred[door],) + barred[door + 1:]
                    self.assert_never(house, start, ((0, 0), other), find_plan(house, start, ((0, 0), other)))

    def test_three_people_set_all_doors(self):
        for barred in itertools.product(range(3), repeat=3):
            for start in (((0, 0, 0), (0, 1, 2)), ((1, 2, 3), (0, 2, 2))):
                target = ((0, 0, 0), barred)
                self.assert_leads(STAR4, start, target, find_plan(STAR4, start, target))

    def test_door_that_bars_somebody_outside_of_the_group(self):
        start = ((0, 2, 4), (2, 2, 2, 0))
        for target in (((1, 1, 4), (0, 1, 2, 0)), ((2, 0, 4), (1, 0, 2, 0)), ((0, 0, 4), (1, 1, 2, 0))):
            self.assert_leads(ROW5, start, target, find_plan(ROW5, start, target))
        for target in (((0, 2, 4), (0, 1, 2, 0)), ((1, 1, 4), (1, 0, 2, 0))):
            self.assertEqual(find_plan(ROW5, start, target), ("never", ("order", 0, 1)))
        start = ((0, 2, 4), (2, 1, 2, 0))
        target = ((2, 2, 4), (0, 0, 2, 0))
        self.assert_leads(ROW5, start, target, find_plan(ROW5, start, target))

    def test_crowds_that_meet_before_they_join_the_others(self):
        # Backwards in time, 2 and 3 have to meet before they can get to 0 and 1.
        target = ((0, 0, 2, 3), (3, 2, 3))
        for start in (((0, 0, 0, 0), (0, 1, 2)), ((3, 3, 3, 3), (3, 3, 3)), ((0, 1, 2, 3), (1, 1, 1))):
            self.assert_leads(ROW4, start, target, find_plan(ROW4, start, target))

    def test_several_groups(self):
        house = row_house(9)
        target = ((0, 3, 3, 8, 5), (0, 2, 1, 3, 0, 4, 3, 3))
        for inner in ((0, 2, 1), (4, 0, 2), (3, 3, 4), (1, 1, 1)):
            for rooms in ((1, 1, 1, 6, 6), (3, 0, 3, 8, 8), (0, 3, 2, 5, 5)):
                start = (rooms, inner + (3, 0, 3, 4, 4))
                self.assert_leads(house, start, target, find_plan(house, start, target))
        start = ((1, 1, 1, 6, 6), (4, 0, 2, 3, 0, 3, 4, 3))
        self.assertEqual(find_plan(house, start, target), ("never", ("bit", 7)))
        start = ((1, 1, 1, 6, 6), (4, 0, 2, 1, 0, 3, 4, 4))
        self.assertEqual(find_plan(house, start, target), ("never", ("door", 3)))
        start = ((1, 1, 4, 6, 6), (4, 0, 2, 3, 0, 3, 4, 4))
        self.assertEqual(find_plan(house, start, target), ("never", ("person", 2, 3)))

    def test_against_search(self):
        told = set()
        for house, start, target, moves in searched_cases():
            with self.subTest(house=house, start=start, target=target):
                found = find_plan(house, start, target)
                if target in moves:
                    self.assert_leads(house, start, target, found)
                else:
                    self.assert_never(house, start, target, found)
                    told.add(found[1][0])
        self.assertEqual(told, set(WORDS))

    def test_larger_houses(self):
        for house, start, target, possible in large_cases():
            with self.subTest(house=house, start=start, target=target):
                found = quick(find_plan, house, start, target)
                if possible or found[0] == "plan":
                    self.assert_leads(house, start, target, found)
                else:
                    self.assert_never(house, start, target, found)

    def test_largest(self):
        rng = random.Random(61)
        for house in (row_house(30), star_house(30), comb_house(30), random_house(rng, 30)):
            start = ((0, 5, 10, 15, 20, 29), (0,) * 28 + (5,))
            for barred in ((5,) * 29, tuple(door % 6 for door in range(29))):
                target = ((29,) * 6, barred)
                for far in (target, ((0,) * 6, barred), ((0, 0, 0, 29, 29, 29), (0,) * 29)):
                    found = quick(find_plan, house, start, far)
                    if found[0] == "plan":
                        self.assert_leads(house, start, far, found)
                    else:
                        self.assert_never(house, start, far, found)
            gathered = ((7,) * 6, tuple(rng.randrange(6) for _ in range(29)))
            target = ((0, 29, 0, 29, 14, 14), (0,) * 29)
            self.assert_leads(house, gathered, target, quick(find_plan, house, gathered, target))
            pair = ((3, 3), tuple(rng.randrange(2) for _ in range(29)))
            target = wander(rng, house, pair, 500)
            self.assert_leads(house, pair, target, quick(find_plan, house, pair, target))

    def test_errors_in_order(self):
        self.assert_error(InvalidHouse, {"reason": ("shape",)}, find_plan, [], None, None)
        self.assert_error(InvalidHouse, {"reason": ("ring", 1)}, find_plan, ((0, 1), (0, 1)), MEETING, MET)
        for state, reason in BAD_STATES:
            self.assert_error(InvalidState, {"reason": reason}, find_plan, ROW3, state, MET)
            self.assert_error(InvalidState, {"reason": reason}, find_plan, ROW3, state, None)
            self.assert_error(InvalidState, {"reason": reason}, find_plan, ROW3, MEETING, state)

    def test_other_number_of_people(self):
        for target, reason in (
                (((1,), (0, 0)), ("people",)), (((1, 1, 1), (0, 1)), ("people",)), (((1, 1, 1), (0, 2)), ("people",)),
                (((1,), (0, 1)), ("barred", 1)), (((3, 1, 1), (0, 1)), ("room", 0)), (((1, 1, 1), (0,)), ("shape",))):
            self.assert_error(InvalidState, {"reason": reason}, find_plan, ROW3, MEETING, target)
        self.assert_error(InvalidState, {"reason": ("people",)}, find_plan, (), ((0,), ()), ((0, 0), ()))


class TestReasons(ErrorCase):

    def assert_reason(self, house, start, target, reason, applies=True):
        expected = None if applies else ("reason",)
        self.assertEqual(check_reach(house, start, target, ("never", reason)), expected)

    def test_door(self):
        start = ((0, 3), (0, 1, 0))
        self.assert_reason(ROW4, start, ((0, 3), (1, 1, 0)), ("door", 0))
        self.assert_reason(ROW4, start, ((0, 3), (1, 1, 0)), ("door", 1), False)
        self.assert_reason(ROW4, start, ((0, 3), (1, 0, 0)), ("door", 1))
        # Here door 0 is explained.
        self.assert_reason(ROW4, ((0, 3), (1, 1, 0)), ((0, 3), (0, 1, 0)), ("door", 0), False)

    def test_person(self):
        self.assert_reason(ROW3, MET, ((2, 0), (0, 1)), ("person", 0, 0), False)
        self.assert_reason(ROW3, MET, ((2, 0), (0, 1)), ("person", 0, 1))
        self.assert_reason(ROW3, MET, ((2, 0), (0, 1)), ("person", 1, 0))
        self.assert_reason(ROW3, MET, ((2, 0), (0, 1)), ("person", 1, 1), False)

    def test_bit(self):
        self.assert_reason(((0, 1),), ((0, 0), (0,)), ((0, 0), (1,)), ("bit", 0))
        self.assert_reason(((0, 1),), ((0, 0), (0,)), ((0, 1), (1,)), ("bit", 0), False)
        self.assert_reason(((0, 1),), ((0, 0, 0), (0,)), ((0, 0, 0), (1,)), ("bit", 0), False)
        # The group of door 1 has two members, but it bars neither of them in the start.
        start = ((2, 2, 0), (2, 2))
        self.assert_reason(ROW3, start, ((2, 2, 0), (2, 1)), ("bit", 1), False)

    def test_bit_wherever_the_members_are(self):
        # Person 1 is not in the group in the start, so that another reason applies, too.
        target = ((3, 3, 0), (0, 2, 1))
        self.assert_reason(ROW4, ((3, 0, 0), (0, 2, 1)), target, ("bit", 2))
        self.assert_reason(ROW4, ((3, 0, 0), (0, 2, 0)), target, ("bit", 2), False)
        self.assert_reason(ROW4, ((2, 0, 0), (0, 2, 1)), target, ("bit", 2), False)
        self.assert_reason(ROW4, ((2, 0, 0), (0, 2, 0)), target, ("bit", 2))
        self.assert_reason(ROW4, ((3, 0, 0), (0, 2, 2)), target, ("bit", 2), False)

    def test_order(self):
        start = ((0, 2, 4), (2, 1, 2, 0))
        target = ((0, 2, 4), (0, 1, 2, 0))
        self.assert_reason(ROW5, start, target, ("order", 0, 1))
        self.assert_reason(ROW5, start, target, ("order", 1, 0), False)
        self.assert_reason(ROW5, start, target, ("order", 0, 0), False)
        self.assert_reason(ROW5, start, target, ("order", 1, 1), False)
        self.assert_reason(ROW5, start, target, ("order", 0, 2), False)

    def test_walk(self):
        self.assert_reason(((0, 1),), ((0,), (0,)), ((1,), (0,)), ("walk", 0))
        self.assert_reason(((0, 1),), ((0,), (0,)), ((0,), (0,)), ("walk", 0), False)
        start = ((0, 3), (1, 0, 0))
        self.assert_reason(ROW4, start, ((1, 3), (0, 0, 0)), ("walk", 0), False)

    def test_walk_through_a_door_that_bars_somebody_else_in_the_target(self):
        start = ((0, 3), (1, 0, 1))
        target = ((1, 3), (1, 0, 1))
        self.assert_reason(ROW4, start, target, ("walk", 0))
        self.assert_reason(ROW4, start, target, ("walk", 1), False)
        # Here no other reason applies.
        start = ((0, 3, 5), (1, 0, 1, 1, 2))
        target = ((1, 3, 5), (1, 0, 1, 1, 2))
        for reason in all_reasons(ROW6, 3):
            self.assert_reason(ROW6, start, target, reason, reason == ("walk", 0))
        self.assertEqual(find_plan(ROW6, start, target), ("never", ("walk", 0)))

    def test_still(self):
        start = ((0, 3), (1, 1, 0))
        self.assert_reason(ROW4, start, ((0, 3), (0, 1, 0)), ("still", 0))
        self.assert_reason(ROW4, start, ((0, 3), (0, 1, 0)), ("still", 1), False)
        self.assert_reason(ROW4, start, ((1, 3), (0, 1, 0)), ("still", 0), False)

    def test_words_of_the_document(self):
        told = dict.fromkeys(WORDS, 0)
        rng = random.Random(67)
        cases = [case[:3] for case in searched_cases()]
        chosen = [(house, start, changed_state(rng, house, target)) for house, start, target in CHOSEN * 3]
        for house, start, target in rng.sample(cases, 400) + list(split_cases()) + list(CHOSEN) + chosen:
            words = ByDefinition(house, start, target)
            for reason in all_reasons(house, len(start[0])):
                applies = words.applies(reason)
                told[reason[0]] += applies
                with self.subTest(house=house, start=start, target=target, reason=reason):
                    self.assert_reason(house, start, target, reason, applies)
        self.assertGreater(min(told.values()), 0, told)

    def test_no_reason_applies_to_a_state_that_can_come_about(self):
        for house, start, target, possible in large_cases():
            if possible:
                words = ByDefinition(house, start, target)
                reasons = [("door", 0), ("person", 0, 0), ("bit", 0), ("order", 0, 1), ("walk", 0), ("still", 0)]
                for reason in reasons if len(house) > 1 else []:
                    self.assertFalse(words.applies(reason))
                    self.assert_reason(house, start, target, reason, False)


class TestCheckReach(ErrorCase):

    def test_own_results(self):
        for house, start, target, _ in large_cases():
            with self.subTest(house=house, start=start, target=target):
                self.assertIsNone(check_reach(house, start, target, find_plan(house, start, target)))

    def test_every_plan(self):
        self.assertIsNone(check_reach(ROW3, MEETING, MET, ("plan", [(0, 0, 1), (1, 2, 1)])))
        self.assertIsNone(check_reach(ROW3, MEETING, MET, ("plan", [(1, 2, 1), (0, 0, 1)])))
        longer = [(0, 0, 1), (1, 2, 1), (1, 1, 0), (0, 1, 0), (1, 0, 1), (0, 0, 1)]
        self.assertIsNone(check_reach(ROW3, MEETING, ((1, 1), (0, 1)), ("plan", longer)))
        self.assertIsNone(check_reach(ROW3, MEETING, MEETING, ("plan", [])))

    def test_form(self):
        claims = [None, True, 0, "plan", "never", [], {}, (), ("plan",), ("never",), ["plan", []],
                  ["never", ("door", 0)], ("plan", [], []), ("never", ("door", 0), 0), ("never", "door", 0),
                  ("plans", []), ("Never", ("door", 0)), ("", []), (None, []), (0, []), ([], []), (["plan"], []),
                  (b"plan", []), ("plan", ("door", 0)), ("never", [(0, 0, 1)]), ("never", [])]
        claims.extend(("plan", plan) for plan in (
            None, (), ((0, 0, 1),), {}, "", [None], [[0, 0, 1]], [(0, 0)], [(0, 0, 1, 1)], [(0, 0, 2)], [(0, 1, 1)],
            [(2, 0, 1)], [(-1, 0, 1)], [(False, 0, 1)], [(0, False, 1)], [(0, 0, True)], [(0, 0, 1.0)], [(0, 2, 3)],
            [(0, 0, 1), (0, 0, HUGE)]))
        claims.extend(("never", reason) for reason in self.wrong_reasons())
        for claim in claims:
            with self.subTest(claim=claim):
                self.assertEqual(check_reach(ROW3, MEETING, MET, claim), ("form",))
                self.assertEqual(check_reach(ROW3, MEETING, ((1, 1), (1, 1)), claim), ("form",))

    def wrong_reasons(self):
        """What has none of the forms of [61], for a house of two doors and two people."""
        found = [None, True, 0, "door", "", (), {}, ["door", 0], ("door",), ("doors", 0), ("Door", 0), (None, 0),
                 (0, 0), ([], 0), ({}, 0), (("door",), 0), (b"door", 0), ("plan", []), ("split", 0), (0, "door")]
        numbers = {"door": 1, "person": 2, "bit": 1, "order": 2, "walk": 1, "still": 1}
        for word, many in numbers.items():
            found.extend((word,) + (0,) * length for length in range(5) if length != many)
            found.append([word] + [0] * many)
            found.append((word, (0,) * many))
            for place in range(many):
                for wrong in NOT_WHOLE + (-1, 2, HUGE, -HUGE):
                    numbers_given = [0] * many
                    numbers_given[place] = wrong
                    found.append((word, *numbers_given))
        return found

    def test_doors_and_persons(self):
        state = ((0, 0, 0), (0,))
        for reason in (("person", 2, 0), ("walk", 2), ("door", 0), ("order", 0, 0)):
            self.assertEqual(check_reach(((0, 1),), state, state, ("never", reason)), ("reason",))
        for reason in (("person", 0, 2), ("person", 3, 0), ("walk", 3), ("door", 1), ("order", 0, 1), ("still", 1)):
            self.assertEqual(check_reach(((0, 1),), state, state, ("never", reason)), ("form",))
        for reason in (("door", 0), ("bit", 0), ("still", 0), ("person", 0, 0), ("order", 0, 0)):
            self.assertEqual(check_reach((), ((0,), ()), ((0,), ()), ("never", reason)), ("form",))
        self.assertEqual(check_reach((), ((0,), ()), ((0,), ()), ("never", ("walk", 0))), ("reason",))

    def test_one_door_twice(self):
        self.assertEqual(check_reach(ROW3, MEETING, MET, ("never", ("order", 1, 1))), ("reason",))

    def test_blocked(self):
        for index, plan in (
                (0, [(0, 1, 0)]), (1, [(0, 0, 1), (0, 1, 0)]), (1, [(0, 0, 1), (0, 1, 2), (1, 2, 1)]),
                (2, [(0, 0, 1), (1, 2, 1), (1, 2, 1)])):
            self.assertEqual(check_reach(ROW3, MEETING, MET, ("plan", plan)), ("blocked", index))

    def test_result(self):
        self.assertEqual(check_reach(ROW3, MEETING, MET, ("plan", [])), ("result",))
        self.assertEqual(check_reach(ROW3, MEETING, MET, ("plan", [(0, 0, 1)])), ("result",))
        plan = [(0, 0, 1), (1, 2, 1)]
        self.assertEqual(check_reach(ROW3, MEETING, ((1, 1), (1, 1)), ("plan", plan)), ("result",))
        self.assertEqual(check_reach(ROW3, MEETING, ((1, 2), (0, 1)), ("plan", plan)), ("result",))

    def test_reason(self):
        for reason in all_reasons(ROW3, 2):
            self.assertEqual(check_reach(ROW3, MEETING, MET, ("never", reason)), ("reason",))
        self.assertEqual(check_reach(ROW3, MET, ((2, 0), (0, 1)), ("never", ("person", 0, 0))), ("reason",))

    def test_first_of_two_faults(self):
        self.assertEqual(check_reach(ROW3, MEETING, MET, ("plan", [(0, 1, 2), (0, 0, 2)])), ("form",))
        self.assertEqual(check_reach(ROW3, MEETING, MET, ("plan", [(0, 0, 1), (0, 0, 1)])), ("blocked", 1))
        self.assertEqual(check_reach(ROW3, MEETING, MET, ("never", ("door", 2))), ("form",))

    def test_longest_plans(self):
        house = row_house(30)
        swing = [(0, 0, 1), (1, 0, 1), (0, 1, 0), (1, 1, 0)] * 5000
        state = ((0, 0), (1,) * 29)
        self.assertIsNone(quick(check_reach, house, state, state, ("plan", swing)))
        self.assertEqual(quick(check_reach, house, state, state, ("plan", swing[:-1])), ("result",))
        self.assertEqual(quick(check_reach, house, state, state, ("plan", swing[:-1] + [(0, 0, 2)])), ("form",))
        self.assertEqual(
            quick(check_reach, house, state, state, ("plan", swing[:-1] + [(1, 2, 1)])), ("blocked", 19999))

    def test_errors_in_order(self):
        self.assert_error(InvalidHouse, {"reason": ("door", 0)}, check_reach, (0,), None, None, None)
        for state, reason in BAD_STATES:
            self.assert_error(InvalidState, {"reason": reason}, check_reach, ROW3, state, None, None)
            self.assert_error(InvalidState, {"reason": reason}, check_reach, ROW3, MEETING, state, None)
        for target in (((1,), (0, 0)), ((1, 1, 1), (0, 2))):
            self.assert_error(InvalidState, {"reason": ("people",)}, check_reach, ROW3, MEETING, target, None)


if __name__ == "__main__":
    unittest.main()
