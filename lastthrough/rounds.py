"""Rounds: moves that are made at the same time."""

from lastthrough.encounters import all_encounters
from lastthrough.errors import InvalidSchedule, MoveBlocked
from lastthrough.houses import doors_by_ends, need_house
from lastthrough.meetings import first_meeting_fault
from lastthrough.orders import moves_before
from lastthrough.states import is_move, need_people, need_plan, need_state, played


def is_round(doors, people, value):
    """Return whether the value is a list of at least one move, ascending, by different people and doors."""
    if not isinstance(value, list) or len(value) == 0:
        return False
    if not all([is_move(doors, people, move) for move in value]):
        return False
    persons = [person for person, start, end in value]
    used = [doors[(start, end)] for person, start, end in value]
    # As the people are different, the moves ascend exactly if the people do.
    return persons == sorted(set(persons)) and len(set(used)) == len(used)


def check_schedule(house, people, value):
    """Return None for a schedule for so many people, otherwise the first reason why it is none."""
    need_house(house)
    need_people(people)
    if not isinstance(value, list):
        return ("schedule",)
    doors = doors_by_ends(house)
    for index, moves in enumerate(value):
        if not is_round(doors, people, moves):
            return ("round", index)
    return None


def need_schedule(house, people, schedule):
    """Raise InvalidSchedule unless the value is a schedule for the house and so many people."""
    reason = check_schedule(house, people, schedule)
    if reason is not None:
        raise InvalidSchedule(reason)


def play_rounds(house, state, schedule):
    """Return the state after all rounds of the schedule."""
    need_state(house, state)
    need_schedule(house, len(state[0]), schedule)
    doors = doors_by_ends(house)
    here = state
    for index, moves in enumerate(schedule):
        # By different people through different doors, moves at the same time do what they do in order.
        try:
            here = played(doors, here, moves)
        except MoveBlocked as blocked:
            raise MoveBlocked(index, blocked.reason) from None
    return here


def schedule_of(house, people, plan):
    """Return the schedule in which every move of the plan is in the earliest possible round."""
    need_plan(house, people, plan)
    numbers = []
    for earlier in moves_before(house, plan):
        numbers.append(max([numbers[index] + 1 for index in earlier], default=0))
    rounds = [[] for number in range(max(numbers, default=-1) + 1)]
    for number, move in zip(numbers, plan):
        rounds[number].append(move)
    return [sorted(moves) for moves in rounds]


def rounds_to(encounter):
    """Return the number of rounds after which the two people can be in the room of the encounter."""
    return max(len(encounter.steps[0]), len(encounter.steps[1]))


def first_meeting_round(house, state):
    """Return the fewest rounds to a meeting and a schedule of so many rounds, or None if nobody ever meets."""
    need_state(house, state)
    possible = [encounter for encounter in all_encounters(house, state) if len(encounter.changes) == 0]
    if len(possible) == 0:
        return None
    soonest = min(possible, key=rounds_to)
    plan = []
    for person, steps in zip(soonest.people, soonest.steps):
        plan.extend([(person, start, end) for door, start, end in steps])
    schedule = schedule_of(house, len(state[0]), plan)
    return (len(schedule), schedule)


def check_meeting_round(house, state, claim):
    """Return None for a valid result of first_meeting_round, otherwise the first fault of the claim."""
    need_state(house, state)
    return first_meeting_fault(house, state, claim, check_schedule, play_rounds, first_meeting_round)
