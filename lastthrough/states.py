"""States and plans: their checks, the possible moves and what plans do."""

from lastthrough.errors import InvalidCount, InvalidPerson, InvalidPlan, InvalidState, MoveBlocked
from lastthrough.houses import doors_by_ends, is_index, is_whole, need_house


def has_state_shape(house, value):
    """Return whether the value is two tuples, as long as a state of the house needs them."""
    if not isinstance(value, tuple) or len(value) != 2:
        return False
    rooms, barred = value
    if not isinstance(rooms, tuple) or not isinstance(barred, tuple):
        return False
    return len(rooms) >= 1 and len(barred) == len(house)


def check_state(house, value):
    """Return None for a state of the house, otherwise the first reason why it is none."""
    need_house(house)
    if not has_state_shape(house, value):
        return ("shape",)
    rooms, barred = value
    for person, room in enumerate(rooms):
        if not is_index(room, len(house) + 1):
            return ("room", person)
    for door, person in enumerate(barred):
        if not is_index(person, len(rooms)):
            return ("barred", door)
    return None


def is_move(doors, people, value):
    """Return whether the value is a tuple of a person and the two ends of one of the doors."""
    if not isinstance(value, tuple) or len(value) != 3:
        return False
    person, start, end = value
    if not is_index(person, people) or not is_whole(start) or not is_whole(end):
        return False
    return (start, end) in doors


def check_plan(house, people, value):
    """Return None for a plan for so many people, otherwise the first reason why it is none."""
    need_house(house)
    need_people(people)
    if not isinstance(value, list):
        return ("plan",)
    doors = doors_by_ends(house)
    for index, move in enumerate(value):
        if not is_move(doors, people, move):
            return ("move", index)
    return None


def need_people(people):
    """Raise InvalidCount unless the value is a number of people."""
    if not is_whole(people) or people < 1:
        raise InvalidCount()


def need_state(house, state):
    """Raise InvalidHouse or InvalidState unless the values are a house and a state of it."""
    reason = check_state(house, state)
    if reason is not None:
        raise InvalidState(reason)


def need_state_of_as_many(house, state, other):
    """Raise InvalidState unless the other value is a state, too, and of as many people."""
    need_state(house, other)
    if len(other[0]) != len(state[0]):
        raise InvalidState(("people",))


def need_plan(house, people, plan):
    """Raise InvalidPlan unless the value is a plan for the house and so many people."""
    reason = check_plan(house, people, plan)
    if reason is not None:
        raise InvalidPlan(reason)


def need_person(state, person):
    """Raise InvalidPerson unless the value is a person of the state."""
    if not is_index(person, len(state[0])):
        raise InvalidPerson(person)


def replaced(values, index, value):
    """Return the tuple with this value in the place of the one at the index."""
    return values[:index] + (value,) + values[index + 1:]


def possible_moves(house, state):
    """Return the sorted list of all moves that are possible in the state."""
    need_state(house, state)
    rooms, barred = state
    moves = []
    for door, (a, b) in enumerate(house):
        for person, room in enumerate(rooms):
            if room == a and barred[door] != person:
                moves.append((person, a, b))
            if room == b and barred[door] != person:
                moves.append((person, b, a))
    return sorted(moves)


def next_states(exits, state):
    """Return a list of tuples (move, state after it) of all possible moves; the exits are those of exits_of."""
    rooms, barred = state
    found = []
    for person, room in enumerate(rooms):
        for door, there in exits[room]:
            if barred[door] != person:
                after = (replaced(rooms, person, there), replaced(barred, door, person))
                found.append(((person, room, there), after))
    return found


def played(doors, state, plan):
    """Return the state after the moves of a plan that was checked; the doors are those of doors_by_ends."""
    rooms = list(state[0])
    barred = list(state[1])
    for index, (person, start, end) in enumerate(plan):
        door = doors[(start, end)]
        if rooms[person] != start:
            raise MoveBlocked(index, ("away",))
        if barred[door] == person:
            raise MoveBlocked(index, ("barred",))
        rooms[person] = end
        barred[door] = person
    return (tuple(rooms), tuple(barred))


def play(house, state, plan):
    """Return the state after the moves of the plan."""
    need_state(house, state)
    need_plan(house, len(state[0]), plan)
    return played(doors_by_ends(house), state, plan)
