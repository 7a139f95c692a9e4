"""Effects of plans: who comes from where to where, and who uses each door first and last."""

from lastthrough.counting import power
from lastthrough.errors import MoveBlocked
from lastthrough.houses import doors_by_ends
from lastthrough.states import check_state, need_plan, play


def plan_effect(house, people, plan):
    """Return the walks of the people and the uses of the doors, or None for a contradictory plan."""
    need_plan(house, people, plan)
    if people == 1 and len(plan) > 0:
        return None
    doors = doors_by_ends(house)
    walks = {}
    uses = {}
    for person, start, end in plan:
        door = doors[(start, end)]
        first_room, room = walks.get(person, (start, start))
        first_user, user = uses.get(door, (person, None))
        if room != start or user == person:
            return None
        walks[person] = (first_room, end)
        uses[door] = (first_user, person)
    return (sorted_entries(walks), sorted_entries(uses))


def sorted_entries(ends):
    """Return the sorted list of tuples (key, first, last) of a dict of tuples (first, last)."""
    return [(key, ends[key][0], ends[key][1]) for key in sorted(ends)]


def outcome(house, state, plan):
    """Return the state after the plan, or None if it cannot be played from the state."""
    try:
        return play(house, state, plan)
    except MoveBlocked:
        return None


def distinguishes(house, state, first, second):
    """Return whether the two plans do not do the same from this state."""
    return outcome(house, state, first) != outcome(house, state, second)


def compare_plans(house, people, first, second):
    """Return ("same",) for plans that always do the same, otherwise a state that distinguishes them."""
    effect = plan_effect(house, people, first)
    other = plan_effect(house, people, second)
    if effect == other:
        return ("same",)
    states = [telling_state(house, people, effect, other), telling_state(house, people, other, effect)]
    telling = [state for state in states if distinguishes(house, state, first, second)]
    return ("different", telling[0])


def telling_state(house, people, effect, other):
    """Return a state from which a plan with this effect can be played, if any plan with it can.

    It is chosen so that a plan with the other effect can only be played from it if all people
    and doors that it uses have the same beginning in both. If that is so both ways round, the
    effects differ in their ends, and so do the states after the plans.
    """
    starts, users = beginnings(effect)
    other_starts, other_users = beginnings(other)
    rooms = [starts.get(person, zero_or_one_but(other_starts.get(person, 1))) for person in range(people)]
    barred = []
    for door in range(len(house)):
        person = other_users.get(door, 0)
        barred.append(zero_or_one_but(person) if person == users.get(door) else person)
    return (tuple(rooms), tuple(barred))


def beginnings(effect):
    """Return the first rooms by the people who move, and the first persons by the doors that are used.

    A contradictory plan, which has no effect, has no beginnings either.
    """
    if effect is None:
        return ({}, {})
    starts = {person: first for person, first, last in effect[0]}
    users = {door: first for door, first, last in effect[1]}
    return (starts, users)


def zero_or_one_but(number):
    """Return 0 or 1, but not this number."""
    return 1 if number == 0 else 0


def is_comparison(house, people, value):
    """Return whether the value has the form of a result of compare_plans."""
    if not isinstance(value, tuple):
        return False
    if value == ("same",):
        return True
    if len(value) != 2 or value[0] != "different":
        return False
    return check_state(house, value[1]) is None and len(value[1][0]) == people


def check_comparison(house, people, first, second, claim):
    """Return None for a valid result of compare_plans, otherwise the first fault of the claim."""
    need_plan(house, people, first)
    need_plan(house, people, second)
    if not is_comparison(house, people, claim):
        return ("form",)
    if claim == ("same",):
        same = plan_effect(house, people, first) == plan_effect(house, people, second)
        return None if same else ("effects",)
    return None if distinguishes(house, claim[1], first, second) else ("state",)


def count_playable(house, people, plan):
    """Return the number of states with so many people from which the plan can be played."""
    effect = plan_effect(house, people, plan)
    if effect is None:
        return 0
    walks, uses = effect
    # Who moves has one room to start from, and a door that is used does not bar its first user.
    rooms = power(len(house) + 1, people - len(walks))
    return rooms * power(people - 1, len(uses)) * power(people, len(house) - len(uses))
