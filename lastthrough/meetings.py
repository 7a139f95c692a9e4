"""Meetings: the first one of two people, and all people in one room."""

from lastthrough.claims import is_numbered
from lastthrough.crowds import Walk, gather_in, meet_soonest
from lastthrough.errors import MoveBlocked
from lastthrough.houses import is_whole, need_room
from lastthrough.regions import is_apart, region
from lastthrough.states import check_plan, need_state, play


def people_of(state):
    """Return the list of the people of the state."""
    return list(range(len(state[0])))


def first_meeting(house, state):
    """Return the fewest moves to a meeting and a plan of so many moves, or None if nobody ever meets."""
    need_state(house, state)
    if is_apart(house, state):
        return None
    walk = Walk(house, state)
    meet_soonest(walk, people_of(state))
    return (len(walk.plan), walk.plan)


def is_plan(house, state, value):
    """Return whether the value is a plan for the house and the people of the state."""
    return check_plan(house, len(state[0]), value) is None


def check_first_meeting(house, state, claim):
    """Return None for a valid result of first_meeting, otherwise the first fault of the claim."""
    need_state(house, state)
    return first_meeting_fault(house, state, claim, check_plan, play, first_meeting)


def first_meeting_fault(house, state, claim, check_moves, play_moves, answer):
    """Return the first fault of a claim to be a valid result of the function `answer`, or None.

    The other two functions check and play the plan or the schedule of such a result.
    """
    if claim is not None and not (is_numbered(claim) and check_moves(house, len(state[0]), claim[1]) is None):
        return ("form",)
    if is_apart(house, state) != (claim is None):
        return ("apart",)
    if claim is None:
        return None
    number, moves = claim
    try:
        rooms, barred = play_moves(house, state, moves)
    except MoveBlocked as blocked:
        return ("blocked", blocked.index)
    if len(set(rooms)) == len(rooms):
        return ("meeting",)
    if number != len(moves) or number != answer(house, state)[0]:
        return ("number",)
    return None


def all_regions(house, state):
    """Return the list of the regions of all people."""
    return [region(house, state, person) for person in people_of(state)]


def first_elsewhere(state, room):
    """Return the first person who is in another room, or None."""
    for person, here in enumerate(state[0]):
        if here != room:
            return person
    return None


def gather(house, state, room):
    """Return a plan that leads all people to the room, or the regions in which they stay for ever."""
    need_state(house, state)
    need_room(house, room)
    if first_elsewhere(state, room) is None:
        return ("plan", [])
    if is_apart(house, state):
        return ("apart", all_regions(house, state))
    walk = Walk(house, state)
    gather_in(walk, people_of(state), room)
    return ("plan", walk.plan)


def is_list_of_rooms(value):
    """Return whether the value is a list of whole numbers."""
    return isinstance(value, list) and all([is_whole(item) for item in value])


def is_list_of_regions(value):
    """Return whether the value is a list of lists of whole numbers."""
    return isinstance(value, list) and all([is_list_of_rooms(item) for item in value])


def is_gathering(house, state, value):
    """Return whether the value has the form of a result of gather."""
    if not isinstance(value, tuple) or len(value) != 2:
        return False
    word, told = value
    return (word == "plan" and is_plan(house, state, told)) or (word == "apart" and is_list_of_regions(told))


def check_gathering(house, state, room, claim):
    """Return None for a valid result of gather, otherwise the first fault of the claim."""
    need_state(house, state)
    need_room(house, room)
    if not is_gathering(house, state, claim):
        return ("form",)
    word, told = claim
    if word == "plan":
        return gathering_fault(house, state, room, told)
    return regions_fault(house, state, room, told)


def gathering_fault(house, state, room, plan):
    """Return the first fault of a plan that should lead all people to the room, or None."""
    try:
        after = play(house, state, plan)
    except MoveBlocked as blocked:
        return ("blocked", blocked.index)
    person = first_elsewhere(after, room)
    if person is not None:
        return ("room", person)
    return None


def regions_fault(house, state, room, regions):
    """Return the first fault of regions that should show that there is no such plan, or None."""
    if regions != all_regions(house, state):
        return ("regions",)
    if not is_apart(house, state) or first_elsewhere(state, room) is None:
        return ("together",)
    return None
