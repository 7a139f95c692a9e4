"""Opening doors: how few of them have to bar somebody else so that people can meet again."""

from lastthrough.claims import is_numbered
from lastthrough.encounters import all_encounters
from lastthrough.houses import is_index
from lastthrough.regions import is_apart
from lastthrough.states import need_state, replaced


def fewest_openings(house, state):
    """Return the smallest number of doors to open and so many changes of doors, or None for one person."""
    need_state(house, state)
    if len(state[0]) == 1:
        return None
    changes = min([encounter.changes for encounter in all_encounters(house, state)], key=len)
    return (len(changes), changes)


def opened(state, changes):
    """Return the state in which each door of the changes bars the person of its change."""
    rooms, barred = state
    for door, person in changes:
        barred = replaced(barred, door, person)
    return (rooms, barred)


def is_change(house, state, value):
    """Return whether the value is a tuple of a door of the house and a person of the state."""
    if not isinstance(value, tuple) or len(value) != 2:
        return False
    return is_index(value[0], len(house)) and is_index(value[1], len(state[0]))


def is_list_of_changes(house, state, value):
    """Return whether the value is a list of changes with strictly ascending doors."""
    if not isinstance(value, list) or not all([is_change(house, state, item) for item in value]):
        return False
    doors = [door for door, person in value]
    return doors == sorted(set(doors))


def check_openings(house, state, claim):
    """Return None for a valid result of fewest_openings, otherwise the first fault of the claim."""
    need_state(house, state)
    if claim is not None and not (is_numbered(claim) and is_list_of_changes(house, state, claim[1])):
        return ("form",)
    if (claim is None) != (len(state[0]) == 1):
        return ("people",)
    if claim is None:
        return None
    return openings_fault(house, state, claim[0], claim[1])


def openings_fault(house, state, number, changes):
    """Return the first fault of a number and a list of changes for a state of several people, or None."""
    for door, person in changes:
        if state[1][door] == person:
            return ("same", door)
    if is_apart(house, opened(state, changes)):
        return ("apart",)
    if number != len(changes) or number != fewest_openings(house, state)[0]:
        return ("number",)
    return None
