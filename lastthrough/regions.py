"""Regions: the rooms that a person can reach while nobody else moves."""

from lastthrough.houses import need_room, steps_along, ways_from
from lastthrough.states import need_person, need_state


def doors_barring(state, person):
    """Return the list of the doors that bar the person."""
    return [door for door, who in enumerate(state[1]) if who == person]


def region_ways(house, state, person):
    """Map each room of the region to its step towards the room of the person."""
    return ways_from(house, state[0][person], doors_barring(state, person))


def region(house, state, person):
    """Return the region of the person as an ascending list."""
    need_state(house, state)
    need_person(state, person)
    return sorted(region_ways(house, state, person))


def walk_to(house, state, person, room):
    """Return the shortest plan that leads this person alone to the room, or None."""
    need_state(house, state)
    need_person(state, person)
    need_room(house, room)
    # Ways from the goal, not from the person, give the steps in the order of the walk.
    ways = ways_from(house, room, doors_barring(state, person))
    here = state[0][person]
    if here not in ways:
        return None
    return [(person, start, end) for door, start, end in steps_along(ways, here)]


def is_apart(house, state):
    """Return whether no room belongs to the regions of two people."""
    need_state(house, state)
    rooms = []
    for person in range(len(state[0])):
        rooms.extend(list(region_ways(house, state, person)))
    return len(set(rooms)) == len(rooms)


def walk_lengths(house, state):
    """Return the fewest and the most moves of each person of a state that is apart, otherwise None."""
    if not is_apart(house, state):
        return None
    return [fewest_and_most(region_ways(house, state, person)) for person in range(len(state[0]))]


def fewest_and_most(ways):
    """Return the distances of the nearest and the farthest room in which a walk along the ways ends.

    Nobody else uses these doors in a state that is apart, so a walk never turns back.
    """
    lengths = {}
    passed = {}
    for room, step in ways.items():
        lengths[room] = 0
        if step is not None:
            lengths[room] = lengths[step[1]] + 1
            passed[step[1]] = True
    ends = [lengths[room] for room in lengths if room not in passed]
    return (min(ends), max(ends))
