"""Origins: the groups of a state, the doors that they explain, and the states one move before."""

from lastthrough.errors import IndexTooLarge
from lastthrough.houses import is_index
from lastthrough.states import need_state, need_state_of_as_many, replaced


def group_marks(house, state):
    """Return for each room the first room of its final group."""
    rooms, barred = state
    marks = list(range(len(house) + 1))
    grown = True
    while grown:
        grown = False
        for door, (a, b) in enumerate(house):
            low = min(marks[a], marks[b])
            high = max(marks[a], marks[b])
            if low != high and marks[rooms[barred[door]]] in (low, high):
                marks = [low if mark == high else mark for mark in marks]
                grown = True
    return marks


def groups(house, state):
    """Return the list of the final groups, each ascending, sorted by their first rooms."""
    need_state(house, state)
    found = {}
    for room, mark in enumerate(group_marks(house, state)):
        # A group is first seen at its first room, so the groups come in order.
        if mark == room:
            found[mark] = []
        found[mark].append(room)
    return list(found.values())


def explained_doors(house, state):
    """Return the ascending list of the doors whose ends are in one final group."""
    need_state(house, state)
    marks = group_marks(house, state)
    return [door for door, (a, b) in enumerate(house) if marks[a] == marks[b]]


def last_moves(house, state):
    """Return a sorted list of a tuple (rooms before, door, person) for each move that can have been the last one.

    Before it, the door can have barred anybody but this person, and all else was as it is.
    """
    rooms, barred = state
    moves = []
    for door, (a, b) in enumerate(house):
        person = barred[door]
        if rooms[person] in (a, b):
            start = b if rooms[person] == a else a
            moves.append((replaced(rooms, person, start), door, person))
    return sorted(moves)


def count_previous(house, state):
    """Return the number of states from which a single move leads to this state."""
    need_state(house, state)
    return len(last_moves(house, state)) * (len(state[0]) - 1)


def state_before(state, rooms, door, before):
    """Return the state with these rooms in which the door bars the person before."""
    return (rooms, replaced(state[1], door, before))


def previous_at(house, state, index):
    """Return the state of that index among those from which a single move leads to this state."""
    count = count_previous(house, state)
    if not is_index(index, count):
        raise IndexTooLarge(count)
    place, other = divmod(index, len(state[0]) - 1)
    rooms, door, person = last_moves(house, state)[place]
    # The person who moved is left out of the people whom the door can have barred.
    before = other if other < person else other + 1
    return state_before(state, rooms, door, before)


def previous_index(house, state, previous):
    """Return the index of a state from which a single move leads to this state, or None for another one."""
    need_state(house, state)
    need_state_of_as_many(house, state, previous)
    for place, (rooms, door, person) in enumerate(last_moves(house, state)):
        before = previous[1][door]
        if before != person and previous == state_before(state, rooms, door, before):
            other = before if before < person else before - 1
            return place * (len(state[0]) - 1) + other
    return None
