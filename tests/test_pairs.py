"""Promises [70] to [75], with [9]: two people."""

import itertools
import random
import unittest

from lastthrough.errors import InvalidBits, InvalidCount, InvalidHouse, InvalidRoom, InvalidState
from lastthrough.pairs import can_follow, can_meet, count_pairs, kept_bits, pair_distance, state_of_bits
from lastthrough.reach import find_plan
from lastthrough.regions import is_apart
from tests.helpers import (
    FORK5, HUGE, NOT_WHOLE, ROW3, STAR4, ErrorCase, all_states, comb_house, moves_by_definition, path_by_definition,
    quick, random_house, random_state, row_house, sample_houses, search, star_house, state_after)

SMALL = ((), ((1, 0),), ROW3, STAR4, ((3, 1), (0, 2), (1, 2)))
LARGE = (row_house(30), star_house(30), comb_house(30), random_house(random.Random(71), 30))

WRONG_BITS = tuple(bits for bits in NOT_WHOLE if not isinstance(bits, tuple)) + (
    0, (), (0,), (1, 0, 0), [1, 0], "10", b"10", {0: 1, 1: 0}, (1, 2), (-1, 0), (0, True), (False, 0), (0, None),
    (0, 0.0), ("1", 0), ((1,), 0), ([1], 0), (HUGE, 0), (0, -HUGE))


def all_bits(house):
    return list(itertools.product((0, 1), repeat=len(house)))


def pairs_of_rooms(house):
    return list(itertools.product(range(len(house) + 1), repeat=2))


def kept_by_definition(house, state):
    (a, b), barred = state
    between = path_by_definition(house, a, b)
    return tuple(1 - who if door in between else who for door, who in enumerate(barred))


def bits_on_path(house, bits, a, b):
    return "".join(str(bits[door]) for door in path_by_definition(house, a, b))


class TestKeptBits(ErrorCase):

    def test_row(self):
        self.assertEqual(kept_bits(ROW3, ((0, 1), (0, 0))), (1, 0))
        self.assertEqual(kept_bits(ROW3, ((1, 0), (0, 0))), (1, 0))
        self.assertEqual(kept_bits(ROW3, ((0, 2), (0, 1))), (1, 0))
        self.assertEqual(kept_bits(ROW3, ((1, 1), (0, 1))), (0, 1))

    def test_one_room(self):
        self.assertEqual(kept_bits((), ((0, 0), ())), ())

    def test_bits_by_definition(self):
        rng = random.Random(73)
        for house in sample_houses():
            for _ in range(20):
                state = random_state(rng, house, 2)
                self.assertEqual(kept_bits(house, state), kept_by_definition(house, state))

    def test_no_move_changes_them(self):
        for house in SMALL:
            for state in all_states(house, 2):
                bits = kept_bits(house, state)
                for move in moves_by_definition(house, state):
                    self.assertEqual(kept_bits(house, state_after(house, state, move)), bits)

    def test_result_is_a_tuple_of_whole_numbers(self):
        bits = kept_bits(ROW3, ((0, 1), (0, 0)))
        self.assertIs(bits.__class__, tuple)
        self.assertEqual([bit.__class__ for bit in bits], [int, int])

    def test_errors_in_order(self):
        self.assert_error(InvalidHouse, {"reason": ("shape",)}, kept_bits, list(ROW3), None)
        self.assert_error(InvalidState, {"reason": ("shape",)}, kept_bits, ROW3, None)
        self.assert_error(InvalidState, {"reason": ("room", 0)}, kept_bits, ROW3, ((5,), (0, 0)))
        self.assert_error(InvalidState, {"reason": ("barred", 1)}, kept_bits, ROW3, ((0, 1, 2), (0, 3)))
        for rooms in ((0,), (0, 1, 2), (0,) * 6):
            self.assert_error(InvalidCount, {}, kept_bits, ROW3, (rooms, (0, 0)))


class TestStateOfBits(ErrorCase):

    def test_row(self):
        self.assertEqual(state_of_bits(ROW3, (1, 0), 0, 1), ((0, 1), (0, 0)))
        self.assertEqual(state_of_bits(ROW3, (1, 0), 2, 0), ((2, 0), (0, 1)))
        self.assertEqual(state_of_bits(ROW3, (1, 0), 1, 1), ((1, 1), (1, 0)))

    def test_one_room(self):
        self.assertEqual(state_of_bits((), (), 0, 0), ((0, 0), ()))

    def test_bits_of_the_state(self):
        for house in SMALL + (FORK5,):
            found = set()
            for bits in all_bits(house):
                for a, b in pairs_of_rooms(house):
                    state = state_of_bits(house, bits, a, b)
                    self.assertEqual(state[0], (a, b))
                    self.assertEqual(kept_by_definition(house, state), bits)
                    found.add(state)
            self.assertEqual(len(found), len(all_states(house, 2)))

    def test_there_and_back(self):
        rng = random.Random(79)
        for house in sample_houses():
            for _ in range(20):
                state = random_state(rng, house, 2)
                self.assertEqual(state_of_bits(house, kept_bits(house, state), *state[0]), state)


class TestErrorsOfBits(ErrorCase):

    def test_errors_in_order(self):
        for call in (state_of_bits, can_meet, can_follow):
            self.assert_error(InvalidHouse, {"reason": ("shape",)}, call, None, None, None, None)
            self.assert_error(InvalidHouse, {"reason": ("ring", 1)}, call, ((0, 1), (0, 1)), (0, 0), 0, 0)
            for bits in WRONG_BITS:
                with self.subTest(bits=bits):
                    self.assert_error(InvalidBits, {}, call, ROW3, bits, None, None)
                    self.assert_error(InvalidBits, {}, call, ROW3, bits, 0, 1)
            for room in NOT_WHOLE + (-1, 3, HUGE, -HUGE):
                self.assert_error(InvalidRoom, {"room": room}, call, ROW3, (1, 0), room, "b")
                self.assert_error(InvalidRoom, {"room": room}, call, ROW3, (1, 0), room, 0)
                self.assert_error(InvalidRoom, {"room": room}, call, ROW3, (1, 0), 0, room)

    def test_errors_of_count_pairs(self):
        self.assert_error(InvalidHouse, {"reason": ("shape",)}, count_pairs, None, None)
        self.assert_error(InvalidHouse, {"reason": ("door", 1)}, count_pairs, ((0, 1), (1, 3)), (0, 0))
        for bits in WRONG_BITS:
            with self.subTest(bits=bits):
                self.assert_error(InvalidBits, {}, count_pairs, ROW3, bits)
        self.assert_error(InvalidBits, {}, count_pairs, (), (0,))
        self.assert_error(InvalidBits, {}, count_pairs, (), [])


class TestMeetAndFollow(unittest.TestCase):

    def test_row(self):
        self.assertIs(can_meet(ROW3, (1, 0), 0, 2), False)
        self.assertIs(can_meet(ROW3, (1, 0), 2, 0), True)
        self.assertIs(can_follow(ROW3, (1, 0), 0, 2), True)
        self.assertIs(can_follow(ROW3, (1, 0), 2, 0), False)

    def test_one_room_or_one_door(self):
        for call in (can_meet, can_follow):
            self.assertIs(call((), (), 0, 0), True)
            for bits in all_bits(FORK5):
                for room in range(5):
                    self.assertIs(call(FORK5, bits, room, room), True)
                for a, b in FORK5:
                    self.assertIs(call(FORK5, bits, a, b), True)
                    self.assertIs(call(FORK5, bits, b, a), True)

    def test_equal_bits(self):
        for house in LARGE:
            for bit in (0, 1):
                self.assertIs(can_meet(house, (bit,) * 29, 0, 29), True)
                self.assertIs(can_follow(house, (bit,) * 29, 29, 0), True)

    def test_bits_on_the_path(self):
        rng = random.Random(83)
        for house in sample_houses():
            for _ in range(30):
                bits = tuple(rng.choice((0, 0, 0, 1)) for _ in house)
                a, b = rng.randrange(len(house) + 1), rng.randrange(len(house) + 1)
                along = bits_on_path(house, bits, a, b)
                self.assertIs(can_meet(house, bits, a, b), "10" not in along)
                self.assertIs(can_follow(house, bits, a, b), "01" not in along)

    def test_against_search(self):
        for house in SMALL:
            for bits in all_bits(house):
                meeting = state_of_bits(house, bits, 0, 0)
                following = search(house, meeting)
                for a, b in pairs_of_rooms(house):
                    state = state_of_bits(house, bits, a, b)
                    self.assertIs(can_follow(house, bits, a, b), state in following)
                    self.assertIs(can_meet(house, bits, a, b), meeting in search(house, state))
                    self.assertIs(can_meet(house, bits, a, b), not is_apart(house, state))


class TestCountPairs(unittest.TestCase):

    def test_row(self):
        self.assertEqual(count_pairs(ROW3, (1, 0)), (8, 8, 7))
        self.assertEqual(count_pairs(ROW3, (1, 1)), (9, 9, 9))

    def test_one_room(self):
        self.assertEqual(count_pairs((), ()), (1, 1, 1))

    def test_row_and_star(self):
        self.assertEqual(count_pairs(row_house(4), (0, 1, 0)), (12, 12, 10))
        self.assertEqual(count_pairs(STAR4, (0, 0, 1)), (14, 14, 12))

    def test_each_pair(self):
        for house in SMALL + (FORK5, row_house(6)):
            for bits in all_bits(house):
                meet = [can_meet(house, bits, a, b) for a, b in pairs_of_rooms(house)]
                follow = [can_follow(house, bits, a, b) for a, b in pairs_of_rooms(house)]
                both = [first and second for first, second in zip(meet, follow)]
                self.assertEqual(count_pairs(house, bits), (sum(meet), sum(follow), sum(both)))

    def test_largest(self):
        for house in LARGE:
            self.assertEqual(quick(count_pairs, house, (0,) * 29), (900, 900, 900))
        alternating = tuple(door % 2 for door in range(29))
        self.assertEqual(quick(count_pairs, row_house(30), alternating), (30 + 58 + 28, 30 + 58 + 28, 88))
        # In a star, two rooms at the end of doors with different bits meet or follow one way round only.
        one_way = 900 - 15 * 14
        self.assertEqual(quick(count_pairs, star_house(30), alternating), (one_way, one_way, 900 - 2 * 15 * 14))

    def test_result_is_a_tuple_of_whole_numbers(self):
        found = count_pairs(ROW3, (1, 0))
        self.assertIs(found.__class__, tuple)
        self.assertEqual([number.__class__ for number in found], [int, int, int])


class TestPairDistance(ErrorCase):

    def test_one_door(self):
        house = ((0, 1),)
        self.assertEqual(pair_distance(house, ((0, 0), (0,)), ((1, 1), (0,))), 2)
        self.assertEqual(pair_distance(house, ((0, 0), (0,)), ((0, 1), (1,))), 1)
        self.assertEqual(pair_distance(house, ((0, 1), (1,)), ((1, 0), (1,))), 2)
        self.assertIsNone(pair_distance(house, ((0, 1), (1,)), ((1, 0), (0,))))
        self.assertIsNone(pair_distance(house, ((0, 0), (0,)), ((1, 1), (1,))))

    def test_target_that_is_the_start(self):
        self.assertEqual(pair_distance((), ((0, 0), ()), ((0, 0), ())), 0)
        rng = random.Random(89)
        for house in sample_houses():
            state = random_state(rng, house, 2)
            self.assertEqual(pair_distance(house, state, state), 0)

    def test_one_way_only(self):
        house = row_house(3)
        start = state_of_bits(house, (1, 0), 2, 0)
        target = state_of_bits(house, (1, 0), 0, 2)
        self.assertEqual(pair_distance(house, start, target), search(house, start)[target])
        self.assertIsNone(pair_distance(house, target, start))

    def test_apart(self):
        house = row_house(4)
        start = state_of_bits(house, (1, 0, 0), 0, 2)
        self.assertTrue(is_apart(house, start))
        self.assertEqual(pair_distance(house, start, state_of_bits(house, (1, 0, 0), 0, 3)), 1)
        self.assertIsNone(pair_distance(house, start, state_of_bits(house, (1, 0, 0), 0, 1)))
        start = state_of_bits(house, (1, 0, 1), 0, 2)
        self.assertTrue(is_apart(house, start))
        self.assertIsNone(pair_distance(house, start, state_of_bits(house, (1, 0, 1), 0, 3)))

    def test_against_search(self):
        for house in SMALL:
            states = all_states(house, 2)
            for start in states:
                moves = search(house, start)
                for target in states[::3]:
                    with self.subTest(house=house, start=start, target=target):
                        self.assertEqual(pair_distance(house, start, target), moves.get(target))

    def test_larger_houses(self):
        rng = random.Random(97)
        for house in sample_houses():
            for _ in range(2):
                start = random_state(rng, house, 2)
                moves = search(house, start)
                for target in rng.choices(list(moves), k=3) + [random_state(rng, house, 2)]:
                    found = pair_distance(house, start, target)
                    self.assertEqual(found, moves.get(target))
                    word, plan = find_plan(house, start, target)
                    self.assertEqual(found is None, word == "never")
                    self.assertLessEqual(found or 0, len(plan))

    def test_largest(self):
        for house in LARGE:
            bits = tuple(door % 2 for door in range(29))
            start = state_of_bits(house, bits, 0, 0)
            target = state_of_bits(house, bits, 29, 29)
            distance = len(path_by_definition(house, 0, 29))
            self.assertEqual(quick(pair_distance, house, start, target), 2 * distance)
            other = state_of_bits(house, bits[:-1] + (1,), 29, 29)
            self.assertIsNone(quick(pair_distance, house, start, other))

    def test_errors_in_order(self):
        one = ((0,), (0, 0))
        two = ((0, 2), (1, 0))
        three = ((0, 1, 2), (1, 0))
        self.assert_error(InvalidHouse, {"reason": ("shape",)}, pair_distance, None, None, None)
        self.assert_error(InvalidState, {"reason": ("shape",)}, pair_distance, ROW3, None, None)
        self.assert_error(InvalidState, {"reason": ("room", 1)}, pair_distance, ROW3, ((0, 3), (1, 0)), one)
        self.assert_error(InvalidState, {"reason": ("barred", 0)}, pair_distance, ROW3, one, ((0,), (1, 0)))
        self.assert_error(InvalidState, {"reason": ("barred", 1)}, pair_distance, ROW3, two, ((0, 1), (1, 2)))
        for start, target in ((one, two), (two, one), (two, three), (three, two), (one, three), (three, one)):
            self.assert_error(InvalidState, {"reason": ("people",)}, pair_distance, ROW3, start, target)
        for state in (one, three):
            self.assert_error(InvalidCount, {}, pair_distance, ROW3, state, state)


if __name__ == "__main__":
    unittest.main()
