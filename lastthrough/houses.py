"""Houses: their check, the paths and the sides of their doors."""

from lastthrough.errors import InvalidDoor, InvalidHouse, InvalidRoom


def is_whole(value):
    """Return whether the value is a whole number."""
    return isinstance(value, int) and not isinstance(value, bool)


def is_index(value, count):
    """Return whether the value is a whole number from 0 to count - 1."""
    return is_whole(value) and 0 <= value < count


def is_door(value, count):
    """Return whether the value is a tuple of two different rooms of so many."""
    if not isinstance(value, tuple) or len(value) != 2:
        return False
    a, b = value
    return is_index(a, count) and is_index(b, count) and a != b


def check_house(value):
    """Return None for a house, otherwise the first reason why it is none."""
    if not isinstance(value, tuple):
        return ("shape",)
    for door, ends in enumerate(value):
        if not is_door(ends, len(value) + 1):
            return ("door", door)
    ring = first_ring(value)
    if ring is not None:
        return ("ring", ring)
    return None


def first_ring(doors):
    """Return the first door whose ends are connected without it by smaller ones, or None."""
    links = list(range(len(doors) + 1))
    for door, (a, b) in enumerate(doors):
        a_root = find_root(links, a)
        b_root = find_root(links, b)
        if a_root == b_root:
            return door
        links[a_root] = b_root
    return None


def find_root(links, room):
    """Return the room that stands for all rooms connected with this one so far."""
    while links[room] != room:
        # Without this shortcut a long row of rooms would be walked again for each door.
        links[room] = links[links[room]]
        room = links[room]
    return room


def need_house(house):
    """Raise InvalidHouse unless the value is a house."""
    reason = check_house(house)
    if reason is not None:
        raise InvalidHouse(reason)


def need_room(house, room):
    """Raise InvalidRoom unless the value is a room of the house."""
    if not is_index(room, len(house) + 1):
        raise InvalidRoom(room)


def need_door(house, door):
    """Raise InvalidDoor unless the value is a door of the house."""
    if not is_index(door, len(house)):
        raise InvalidDoor(door)


def exits_of(house):
    """Return for each room the list of its exits, tuples (door, room behind it)."""
    exits = [[] for room in range(len(house) + 1)]
    for door, (a, b) in enumerate(house):
        exits[a].append((door, b))
        exits[b].append((door, a))
    return exits


def doors_by_ends(house):
    """Map the two ends of each door, in either order, to the door."""
    doors = {}
    for door, (a, b) in enumerate(house):
        doors[(a, b)] = door
        doors[(b, a)] = door
    return doors


def ways_from(house, room, shut):
    """Map each room within reach of the room, but not through shut doors, to the step towards the room.

    The step is a tuple (door, next room), and None for the room itself. Each next room is a
    key before the rooms whose step leads to it, so that one pass in order can add up lengths.
    """
    exits = exits_of(house)
    shut_doors = set(shut)
    ways = {room: None}
    waiting = [room]
    while waiting:
        here = waiting.pop()
        for door, there in exits[here]:
            if door not in shut_doors and there not in ways:
                ways[there] = (door, here)
                waiting.append(there)
    return ways


def steps_along(ways, room):
    """Return the steps (door, start, end) that lead from the room to where the ways begin."""
    steps = []
    here = room
    while ways[here] is not None:
        door, there = ways[here]
        steps.append((door, here, there))
        here = there
    return steps


def steps_between(house, a, b):
    """Return the steps (door, start, end) from room a to room b."""
    return steps_along(ways_from(house, b, []), a)


def doors_between(house, a, b):
    """Return the list of the doors on the way from room a to room b, both of them rooms of the house."""
    return [door for door, start, end in steps_between(house, a, b)]


def path_between(house, a, b):
    """Return the list of the doors on the way from room a to room b."""
    need_house(house)
    need_room(house, a)
    need_room(house, b)
    return doors_between(house, a, b)


def far_side(house, door, room):
    """Return the ascending list of the rooms on the other side of the door, seen from the room."""
    need_house(house)
    need_door(house, door)
    need_room(house, room)
    near = ways_from(house, room, [door])
    return [there for there in range(len(house) + 1) if there not in near]
