"""Two people: kept bits, the pairs of rooms that belong together, and shortest ways."""

from lastthrough.errors import InvalidBits, InvalidCount
from lastthrough.houses import doors_between, is_index, need_house, need_room
from lastthrough.search import searched_plan
from lastthrough.states import need_state, need_state_of_as_many


def need_pair(state):
    """Raise InvalidCount unless the state has exactly two people."""
    if len(state[0]) != 2:
        raise InvalidCount()


def need_bits(house, bits):
    """Raise InvalidBits unless the value is a tuple of 0 or 1 for each door of the house."""
    if not isinstance(bits, tuple) or len(bits) != len(house) or not all([is_index(bit, 2) for bit in bits]):
        raise InvalidBits()


def need_bits_and_rooms(house, bits, a, b):
    """Raise an error unless the values are a house, its bits and two of its rooms."""
    need_house(house)
    need_bits(house, bits)
    need_room(house, a)
    need_room(house, b)


def turned_on_path(house, persons, a, b):
    """Return the tuple of one of two persons for each door, the other one for the doors on the path from a to b."""
    between = doors_between(house, a, b)
    return tuple([1 - person if door in between else person for door, person in enumerate(persons)])


def kept_bits(house, state):
    """Return the tuple of the kept bits of all doors."""
    need_state(house, state)
    need_pair(state)
    a, b = state[0]
    return turned_on_path(house, state[1], a, b)


def state_of_bits(house, bits, a, b):
    """Return the state of two people in the rooms a and b in which the doors have these kept bits."""
    need_bits_and_rooms(house, bits, a, b)
    return ((a, b), turned_on_path(house, bits, a, b))


def can_meet(house, bits, a, b):
    """Return whether the state of the bits for a and b is together."""
    need_bits_and_rooms(house, bits, a, b)
    along = bits_along(house, bits, a, b)
    return along == sorted(along)


def can_follow(house, bits, a, b):
    """Return whether the state of the bits for a and b can come about from one with both people in one room."""
    need_bits_and_rooms(house, bits, a, b)
    along = bits_along(house, bits, a, b)
    return along == sorted(along, reverse=True)


def bits_along(house, bits, a, b):
    """Return the list of the bits of the doors on the path from a to b."""
    return [bits[door] for door in doors_between(house, a, b)]


def count_pairs(house, bits):
    """Return for how many pairs of rooms can_meet is true, for how many can_follow, and for how many both."""
    need_house(house)
    need_bits(house, bits)
    rooms = range(len(house) + 1)
    paths = [bits_along(house, bits, a, b) for a in rooms for b in rooms]
    meeting = [along for along in paths if along == sorted(along)]
    following = [along for along in paths if along == sorted(along, reverse=True)]
    both = [along for along in meeting if along == sorted(along, reverse=True)]
    return (len(meeting), len(following), len(both))


def pair_distance(house, start, target):
    """Return the fewest moves from one state of two people to another one, or None if no plan leads there."""
    need_state(house, start)
    need_state_of_as_many(house, start, target)
    need_pair(start)
    # The kept bits stay, so that no more states are seen than there are pairs of rooms.
    plan = searched_plan(house, start, target)
    return None if plan is None else len(plan)
