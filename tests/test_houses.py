"""Promises [20] to [22], with [4]: houses."""

import random
import unittest

from lastthrough.errors import InvalidDoor, InvalidHouse, InvalidRoom
from lastthrough.houses import check_house, far_side, path_between
from tests.helpers import (
    FORK5, HUGE, NOT_WHOLE, ROW3, STAR4, ErrorCase, comb_house, random_house, row_house, sample_houses, star_house)

DEEP = [[[[[[[[[{}]]]]]]]]]


def ring_by_definition(doors):
    parts = [{room} for room in range(len(doors) + 1)]
    for door, (a, b) in enumerate(doors):
        joined = [part for part in parts if a in part or b in part]
        if len(joined) == 1:
            return ("ring", door)
        parts = [part for part in parts if part not in joined] + [joined[0] | joined[1]]
    return None


def random_doors(rng, many):
    return tuple(tuple(rng.sample(range(many + 1), 2)) for _ in range(many))


class TestCheckHouse(unittest.TestCase):

    def test_houses(self):
        for house in sample_houses():
            with self.subTest(house=house):
                self.assertIsNone(check_house(house))

    def test_one_room(self):
        self.assertIsNone(check_house(()))

    def test_not_a_tuple(self):
        for value in NOT_WHOLE + (0, 1, HUGE, [(0, 1)], [], {(0, 1): 0}, "house", DEEP):
            if not isinstance(value, tuple):
                with self.subTest(value=value):
                    self.assertEqual(check_house(value), ("shape",))

    def test_door_is_not_a_pair(self):
        for door in NOT_WHOLE + (0, 1, HUGE, [0, 1], "01", {0: 0, 1: 1}, (0,), (0, 1, 2), ((0, 1),), DEEP):
            with self.subTest(door=door):
                self.assertEqual(check_house((door,)), ("door", 0))
                self.assertEqual(check_house(((0, 1), (1, 2), door)), ("door", 2))

    def test_end_is_not_a_room(self):
        for end in NOT_WHOLE + (-1, 3, HUGE, -HUGE, DEEP):
            with self.subTest(end=end):
                self.assertEqual(check_house(((0, end), (1, 2))), ("door", 0))
                self.assertEqual(check_house(((0, 2), (end, 1))), ("door", 1))

    def test_rooms_up_to_the_number_of_doors(self):
        self.assertIsNone(check_house(((0, 2), (2, 1))))
        self.assertEqual(check_house(((0, 3), (2, 1))), ("door", 0))

    def test_ends_are_the_same_room(self):
        self.assertEqual(check_house(((0, 0),)), ("door", 0))
        self.assertEqual(check_house(((0, 1), (2, 2))), ("door", 1))

    def test_rings(self):
        self.assertEqual(check_house(((0, 1), (0, 1))), ("ring", 1))
        self.assertEqual(check_house(((0, 1), (1, 2), (2, 0))), ("ring", 2))
        self.assertEqual(check_house(((3, 1), (1, 2), (2, 3), (0, 4))), ("ring", 2))
        self.assertEqual(check_house(((0, 1), (2, 3), (1, 0), (3, 2))), ("ring", 2))

    def test_random_doors(self):
        rng = random.Random(3)
        for many in (2, 3, 4, 5, 8, 12):
            for _ in range(40):
                doors = random_doors(rng, many)
                with self.subTest(doors=doors):
                    self.assertEqual(check_house(doors), ring_by_definition(doors))

    def test_all_doors_before_rings(self):
        self.assertEqual(check_house(((0, 1), (1, 0), (0, 9))), ("door", 2))
        self.assertEqual(check_house(((0, 1), (0, 1), [2, 3])), ("door", 2))

    def test_first_of_several_doors(self):
        self.assertEqual(check_house(((0, 1), (True, 2), [0, 1])), ("door", 1))

    def test_result_is_a_tuple(self):
        self.assertIsInstance(check_house(((0, 1), (1, 0))), tuple)

    def test_largest_houses(self):
        rng = random.Random(5)
        for house in (row_house(1000), star_house(1000), comb_house(1000), random_house(rng, 1000)):
            self.assertIsNone(check_house(house))
            self.assertIsNone(check_house(tuple(reversed(house))))
            self.assertEqual(check_house(house[:-1] + (house[0],)), ("ring", 998))
            self.assertEqual(check_house(house[:-1] + ((0, 1000),)), ("door", 998))

    def test_very_long_values(self):
        self.assertIsNone(check_house(row_house(60000)))
        self.assertIsNone(check_house(star_house(60000)))
        self.assertEqual(check_house(((0, 1),) * 60000), ("ring", 1))
        self.assertEqual(check_house((0,) * 199999), ("door", 0))


class TestPathBetween(ErrorCase):

    def test_fork(self):
        self.assertEqual(path_between(FORK5, 0, 4), [0, 1, 3])
        self.assertEqual(path_between(FORK5, 4, 0), [3, 1, 0])
        self.assertEqual(path_between(FORK5, 3, 4), [2, 3])
        self.assertEqual(path_between(FORK5, 1, 2), [1])

    def test_same_room(self):
        self.assertEqual(path_between((), 0, 0), [])
        for room in range(5):
            self.assertEqual(path_between(FORK5, room, room), [])

    def test_paths_join_the_rooms(self):
        for house in sample_houses():
            rooms = len(house) + 1
            for a in range(rooms):
                for b in range(rooms):
                    here = a
                    path = path_between(house, a, b)
                    self.assertIsInstance(path, list)
                    for door in path:
                        self.assertIn(here, house[door])
                        here = sum(house[door]) - here
                    self.assertEqual(here, b)
                    self.assertEqual(len(set(path)), len(path))

    def test_long_row(self):
        self.assertEqual(path_between(row_house(1000), 999, 0), list(range(998, -1, -1)))

    def test_invalid_house(self):
        self.assert_error(InvalidHouse, {"reason": ("shape",)}, path_between, list(ROW3), 9, 9)
        self.assert_error(InvalidHouse, {"reason": ("door", 1)}, path_between, ((0, 1), (0, 3)), 9, 9)
        self.assert_error(InvalidHouse, {"reason": ("ring", 1)}, path_between, ((0, 1), (1, 0)), None, None)

    def test_invalid_rooms(self):
        for room in NOT_WHOLE + (-1, 3, HUGE, -HUGE, DEEP):
            self.assert_error(InvalidRoom, {"room": room}, path_between, ROW3, room, 0)
            self.assert_error(InvalidRoom, {"room": room}, path_between, ROW3, 0, room)
            self.assert_error(InvalidRoom, {"room": room}, path_between, ROW3, room, "b")

    def test_field_is_the_argument(self):
        room = [1]
        for arguments in ((room, 0), (0, room)):
            with self.assertRaises(InvalidRoom) as caught:
                path_between(ROW3, *arguments)
            self.assertIs(caught.exception.room, room)


class TestFarSide(ErrorCase):

    def test_star(self):
        self.assertEqual(far_side(STAR4, 1, 2), [0, 1, 3])
        self.assertEqual(far_side(STAR4, 1, 0), [2])
        self.assertEqual(far_side(STAR4, 1, 3), [2])

    def test_not_at_the_door(self):
        self.assertEqual(far_side(FORK5, 1, 4), [0, 1])
        self.assertEqual(far_side(FORK5, 1, 0), [2, 3, 4])

    def test_rooms_behind_the_door(self):
        for house in sample_houses():
            rooms = range(len(house) + 1)
            for door in range(len(house)):
                for room in rooms[::3]:
                    behind = [there for there in rooms if door in path_between(house, room, there)]
                    self.assertEqual(far_side(house, door, room), behind)

    def test_invalid_house(self):
        self.assert_error(InvalidHouse, {"reason": ("shape",)}, far_side, None, 9, 9)
        self.assert_error(InvalidHouse, {"reason": ("door", 0)}, far_side, ([0, 1],), 9, 9)
        self.assert_error(InvalidHouse, {"reason": ("ring", 1)}, far_side, ((0, 1), (1, 0)), 9, 9)

    def test_invalid_door(self):
        for door in NOT_WHOLE + (-1, 2, HUGE, -HUGE, DEEP):
            self.assert_error(InvalidDoor, {"door": door}, far_side, ROW3, door, 0)
            self.assert_error(InvalidDoor, {"door": door}, far_side, ROW3, door, "room")

    def test_no_door_in_one_room(self):
        self.assert_error(InvalidDoor, {"door": 0}, far_side, (), 0, 0)

    def test_invalid_room(self):
        for room in NOT_WHOLE + (-1, 3, HUGE, -HUGE, DEEP):
            self.assert_error(InvalidRoom, {"room": room}, far_side, ROW3, 1, room)

    def test_fields_are_the_arguments(self):
        wrong = [0]
        with self.assertRaises(InvalidDoor) as caught:
            far_side(ROW3, wrong, 0)
        self.assertIs(caught.exception.door, wrong)
        with self.assertRaises(InvalidRoom) as caught:
            far_side(ROW3, 0, wrong)
        self.assertIs(caught.exception.room, wrong)


if __name__ == "__main__":
    unittest.main()
