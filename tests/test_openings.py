"""Promises [85] and [86]: opening doors."""

import itertools
import random
import unittest

from lastthrough.errors import InvalidHouse, InvalidState
from lastthrough.openings import check_openings, fewest_openings
from lastthrough.regions import is_apart
from tests.helpers import (
    FORK5, HUGE, NOT_WHOLE, ROW3, STAR4, ErrorCase, all_states, apart_by_definition, comb_house,
    path_by_definition, quick, random_house, random_state, row_apart, row_house, sample_states, star_house)

SMALL = (
    ((), 1), ((), 3), (((1, 0),), 1), (((1, 0),), 3), (ROW3, 1), (ROW3, 2), (ROW3, 3), (STAR4, 2), (STAR4, 3),
    (((3, 1), (0, 2), (1, 2)), 2), (row_house(5), 2), (row_house(5), 3))

STAR_APART = ((1, 2, 3), (0, 1, 2))
MEETING = ((0, 2), (1, 0))
# Person 0 is two doors away from person 1, and both doors bar the one before them.
ROW_APART = ((0, 2), (0, 1))


def opened_by_definition(state, changes):
    barred = list(state[1])
    for door, person in changes:
        barred[door] = person
    return state[0], tuple(barred)


def fewest_by_trial(house, state):
    """The fewest doors that have to bar somebody else, from all ways to bar people."""
    together = [barred for barred in itertools.product(range(len(state[0])), repeat=len(house))
                if not apart_by_definition(house, (state[0], barred))]
    return min(sum(who != before for who, before in zip(barred, state[1])) for barred in together)


def fewest_by_rooms(house, state):
    """The fewest doors to open, over all pairs of people and all rooms on the way between them."""
    rooms, barred = state
    numbers = []
    for p, q in itertools.permutations(range(len(rooms)), 2):
        way = path_by_definition(house, rooms[p], rooms[q])
        bars = [[barred[door] == who for door in way] for who in (p, q)]
        numbers.extend(sum(bars[0][:own]) + sum(bars[1][own:]) for own in range(len(way) + 1))
    return min(numbers)


class TestFewestOpenings(ErrorCase):

    def assert_opens(self, house, state, found):
        """With the changes the state is together, with any fewer of them it is not."""
        number, changes = found
        self.assertIs(found.__class__, tuple)
        self.assertIs(number.__class__, int)
        self.assertIs(changes.__class__, list)
        self.assertEqual(len(changes), number)
        self.assertEqual(len({door for door, _ in changes}), number)
        self.assertEqual(changes, sorted(changes))
        for change in changes:
            self.assertIs(change.__class__, tuple)
            self.assertNotEqual(state[1][change[0]], change[1])
        self.assertFalse(apart_by_definition(house, opened_by_definition(state, changes)))
        for left_out in changes:
            fewer = [change for change in changes if change != left_out]
            self.assertTrue(apart_by_definition(house, opened_by_definition(state, fewer)))

    def test_star(self):
        number, changes = fewest_openings(STAR4, STAR_APART)
        self.assertEqual(number, 1)
        self.assert_opens(STAR4, STAR_APART, (number, changes))

    def test_together(self):
        self.assertEqual(fewest_openings(ROW3, MEETING), (0, []))
        self.assertEqual(fewest_openings(ROW3, ((1, 1), (0, 1))), (0, []))
        self.assertEqual(fewest_openings((), ((0, 0), ())), (0, []))
        self.assertEqual(fewest_openings((), ((0,) * 6, ())), (0, []))

    def test_one_person(self):
        self.assertIsNone(fewest_openings((), ((0,), ())))
        for room in range(5):
            self.assertIsNone(fewest_openings(FORK5, ((room,), (0,) * 4)))

    def test_either_of_two_doors(self):
        number, changes = fewest_openings(ROW3, ROW_APART)
        self.assertEqual(number, 1)
        self.assertIn(changes, ([(0, 1)], [(1, 0)]))

    def test_two_doors(self):
        house = row_house(5)
        self.assertEqual(fewest_openings(house, ((0, 4), (0, 1, 0, 1)))[0], 2)
        self.assertEqual(fewest_openings(house, ((0, 4), (0, 1, 1, 1)))[0], 1)
        state = ((0, 4), (0, 0, 1, 1))
        number, changes = fewest_openings(house, state)
        self.assertEqual(number, 2)
        self.assertIn(changes, ([(0, 1), (1, 1)], [(2, 0), (3, 0)]))

    def test_nearest_two_are_not_best(self):
        # Between the persons 0 and 1 are four doors, two of them to open; between 1 and 2 are five, one to open.
        house = row_house(10)
        state = ((0, 4, 9), (0, 0, 1, 1, 1, 0, 2, 0, 0))
        found = fewest_openings(house, state)
        self.assertEqual(found[0], 1)
        self.assertIn(found[1], ([(4, 0)], [(4, 2)], [(6, 0)], [(6, 1)]))
        self.assert_opens(house, state, found)

    def test_against_all_changes(self):
        for house, people in SMALL:
            states = all_states(house, people)
            for state in states[::1 + len(states) // 300]:
                found = fewest_openings(house, state)
                with self.subTest(house=house, state=state):
                    if people == 1:
                        self.assertIsNone(found)
                    else:
                        self.assert_opens(house, state, found)
                        self.assertEqual(found[0], fewest_by_trial(house, state))

    def test_against_the_rooms_between(self):
        for house, state in sample_states():
            if len(state[0]) > 1:
                found = fewest_openings(house, state)
                self.assert_opens(house, state, found)
                self.assertEqual(found[0], fewest_by_rooms(house, state))
                self.assertEqual(found[0] == 0, not is_apart(house, state))

    def test_largest(self):
        for people in range(2, 7):
            house, state = row_apart(people)
            found = quick(fewest_openings, house, state)
            self.assertEqual(found[0], 1)
            self.assert_opens(house, state, found)
        house = row_house(30)
        for zeros in (0, 1, 14, 15, 28, 29):
            state = ((0, 29), (0,) * zeros + (1,) * (29 - zeros))
            found = quick(fewest_openings, house, state)
            self.assertEqual(found[0], min(zeros, 29 - zeros))
            self.assert_opens(house, state, found)
        rng = random.Random(149)
        for house in (star_house(30), comb_house(30), random_house(rng, 30)):
            state = (tuple(range(24, 30)), tuple(max(0, door - 23) for door in range(29)))
            found = quick(fewest_openings, house, state)
            self.assertEqual(found[0], fewest_by_rooms(house, state))
            self.assert_opens(house, state, found)

    def test_errors_in_order(self):
        self.assert_error(InvalidHouse, {"reason": ("shape",)}, fewest_openings, None, None)
        self.assert_error(InvalidHouse, {"reason": ("ring", 1)}, fewest_openings, ((0, 1), (1, 0)), ((0,), (1, 0)))
        self.assert_error(InvalidState, {"reason": ("shape",)}, fewest_openings, ROW3, ((), (0, 0)))
        self.assert_error(InvalidState, {"reason": ("room", 0)}, fewest_openings, ROW3, ((3,), (1, 0)))
        self.assert_error(InvalidState, {"reason": ("barred", 0)}, fewest_openings, ROW3, ((0,), (1, 0)))


class TestCheckOpenings(ErrorCase):

    def test_own_results(self):
        for house, state in sample_states():
            with self.subTest(house=house, state=state):
                self.assertIsNone(check_openings(house, state, fewest_openings(house, state)))

    def test_every_valid_claim(self):
        for door, person in ((0, 1), (0, 2), (1, 0), (1, 2), (2, 0), (2, 1)):
            self.assertIsNone(check_openings(STAR4, STAR_APART, (1, [(door, person)])))
        self.assertIsNone(check_openings(ROW3, ROW_APART, (1, [(0, 1)])))
        self.assertIsNone(check_openings(ROW3, ROW_APART, (1, [(1, 0)])))
        self.assertIsNone(check_openings(ROW3, MEETING, (0, [])))
        self.assertIsNone(check_openings((), ((0,), ()), None))

    def test_every_claim(self):
        for house, state in ((ROW3, ROW_APART), (ROW3, MEETING), (row_house(4), ((0, 3), (0, 0, 1))),
                             (STAR4, STAR_APART), (ROW3, ((0, 2, 2), (0, 2))), (FORK5, ((0, 4), (0, 1, 0, 1)))):
            fewest = fewest_by_trial(house, state)
            people = range(len(state[0]))
            for given in itertools.product([None, *people], repeat=len(house)):
                changes = [(door, who) for door, who in enumerate(given) if who is not None]
                same = [door for door, who in changes if state[1][door] == who]
                for number in range(len(changes) + 2):
                    if same:
                        expected = ("same", same[0])
                    elif apart_by_definition(house, opened_by_definition(state, changes)):
                        expected = ("apart",)
                    else:
                        expected = None if number == len(changes) == fewest else ("number",)
                    with self.subTest(house=house, state=state, number=number, changes=changes):
                        self.assertEqual(check_openings(house, state, (number, changes)), expected)

    def test_form(self):
        claims = [False, 0, 1, "", "openings", [], {}, (), (1,), [1, [(0, 1)]], (1, [(0, 1)], None), ([(0, 1)], 1),
                  ((), ()), ("1", [(0, 1)]), ("openings", [(0, 1)]), (None, None)]
        claims.extend((number, [(0, 1)]) for number in NOT_WHOLE + (-1, -HUGE, 1.0))
        changes = [None, True, 0, "", (), ((0, 1),), {}, {0: 1}, {(0, 1): 0}, [None], [0], [[0, 1]], [()], [(0,)],
                   [(0, 1, 1)], ["01"], [b"01"], [{0: 1}], [(3, 0)], [(-1, 0)], [(0, 3)], [(0, -1)], [(HUGE, 0)],
                   [(0, -HUGE)], [(0, 1), (0, 1)], [(0, 1), (0, 2)], [(1, 0), (0, 1)], [(0, 1), (2, 0), (1, 0)],
                   [(0, 1), (1, 0), (1, 2)], [(0, 1), (1, 0), None]]
        changes.extend([(wrong, 1)] for wrong in NOT_WHOLE)
        changes.extend([(0, wrong)] for wrong in NOT_WHOLE)
        claims.extend((1, wrong) for wrong in changes)
        for claim in claims:
            for state in (STAR_APART, ((0, 0, 0), (0, 1, 2))):
                with self.subTest(claim=claim):
                    self.assertEqual(check_openings(STAR4, state, claim), ("form",))
            self.assertEqual(check_openings(STAR4, ((1,), (0, 0, 0)), claim), ("form",))

    def test_persons_of_the_state(self):
        self.assertEqual(check_openings(ROW3, ROW_APART, (1, [(0, 2)])), ("form",))
        self.assertIsNone(check_openings(ROW3, ((0, 2, 2), (0, 0)), (0, [])))
        self.assertEqual(check_openings(ROW3, ((0, 2, 2), (0, 0)), (1, [(0, 2)])), ("number",))
        self.assertEqual(check_openings(ROW3, ((0,), (0, 0)), (1, [(0, 1)])), ("form",))

    def test_people(self):
        self.assertEqual(check_openings(ROW3, ROW_APART, None), ("people",))
        self.assertEqual(check_openings(ROW3, MEETING, None), ("people",))
        self.assertEqual(check_openings((), ((0, 0), ()), None), ("people",))
        self.assertEqual(check_openings((), ((0,), ()), (0, [])), ("people",))
        self.assertEqual(check_openings(ROW3, ((1,), (0, 0)), (1, [(0, 0)])), ("people",))

    def test_same(self):
        self.assertEqual(check_openings(STAR4, STAR_APART, (1, [(0, 0)])), ("same", 0))
        self.assertEqual(check_openings(STAR4, STAR_APART, (1, [(2, 2)])), ("same", 2))
        self.assertEqual(check_openings(STAR4, STAR_APART, (2, [(0, 1), (1, 1)])), ("same", 1))
        self.assertEqual(check_openings(STAR4, STAR_APART, (2, [(1, 1), (2, 2)])), ("same", 1))

    def test_apart(self):
        self.assertEqual(check_openings(STAR4, STAR_APART, (0, [])), ("apart",))
        self.assertEqual(check_openings(row_house(4), ((0, 3), (0, 1, 1)), (1, [(2, 0)])), ("apart",))
        # Changes that bring people apart who were together.
        self.assertEqual(check_openings(ROW3, MEETING, (2, [(0, 0), (1, 1)])), ("apart",))

    def test_number(self):
        for number in (0, 2, 3, HUGE):
            self.assertEqual(check_openings(STAR4, STAR_APART, (number, [(0, 1)])), ("number",))
        two = [(0, 1), (1, 0)]
        for number in (0, 1, 2, 3):
            self.assertEqual(check_openings(STAR4, STAR_APART, (number, two)), ("number",))
        self.assertEqual(check_openings(ROW3, MEETING, (1, [(0, 0)])), ("number",))
        self.assertEqual(check_openings(ROW3, ((0, 1), (1, 0)), (1, [(0, 0)])), ("number",))
        self.assertEqual(check_openings((), ((0, 0), ()), (1, [])), ("number",))

    def test_first_of_two_faults(self):
        self.assertEqual(check_openings(ROW3, ((0,), (0, 0)), (-1, [])), ("form",))
        self.assertEqual(check_openings(STAR4, STAR_APART, (1, [(0, 0), (0, 1)])), ("form",))
        self.assertEqual(check_openings(ROW3, ((0,), (0, 0)), (5, [(1, 0)])), ("people",))
        self.assertEqual(check_openings(STAR4, STAR_APART, (9, [(2, 2)])), ("same", 2))
        self.assertEqual(check_openings(STAR4, STAR_APART, (9, [(0, 1), (2, 2)])), ("same", 2))
        self.assertEqual(check_openings(STAR4, STAR_APART, (9, [])), ("apart",))

    def test_largest(self):
        rng = random.Random(151)
        house = row_house(30)
        state = ((0, 29), (0,) * 15 + (1,) * 14)
        self.assertIsNone(quick(check_openings, house, state, (14, [(door, 0) for door in range(15, 29)])))
        fifteen = (15, [(door, 1) for door in range(15)])
        self.assertEqual(quick(check_openings, house, state, fifteen), ("number",))
        for house in (star_house(30), comb_house(30), random_house(rng, 30)):
            state = random_state(rng, house, 6)
            self.assertIsNone(quick(check_openings, house, state, fewest_openings(house, state)))

    def test_errors_in_order(self):
        self.assert_error(InvalidHouse, {"reason": ("shape",)}, check_openings, None, None, None)
        self.assert_error(InvalidHouse, {"reason": ("door", 0)}, check_openings, ((0, 2),), ((0,), (0,)), None)
        self.assert_error(InvalidState, {"reason": ("shape",)}, check_openings, ROW3, None, None)
        self.assert_error(InvalidState, {"reason": ("room", 1)}, check_openings, ROW3, ((0, 5), (0, 0)), (0, []))
        self.assert_error(InvalidState, {"reason": ("barred", 1)}, check_openings, ROW3, ((0, 1), (0, 2)), "claim")


if __name__ == "__main__":
    unittest.main()
