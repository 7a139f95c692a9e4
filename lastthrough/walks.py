"""The plans of a length from a state: their number, and each by its index."""

from math import comb

from lastthrough.errors import IndexTooLarge, InvalidCount, ProblemTooLarge
from lastthrough.houses import exits_of, is_index, is_whole
from lastthrough.regions import is_apart, region_ways
from lastthrough.states import need_state, next_states, replaced

MOST_MOVES = 200


class PlansApart:
    """The plans from a state that is apart, where the walks of the people can be mixed in any order."""

    def __init__(self, rooms, walks):
        self.rooms = rooms
        self.walks = walks

    def number(self, length):
        """Return how many plans have this length."""
        numbers = [1]
        for room, walks in zip(self.rooms, self.walks):
            numbers = mixed(numbers, walks.lengths[room])
        return numbers[length] if length < len(numbers) else 0

    def choices(self):
        """Return the sorted list of the possible moves, each with the plans after it."""
        found = []
        for person, room in enumerate(self.rooms):
            for there in sorted(self.walks[person].onward[room]):
                after = PlansApart(replaced(self.rooms, person, there), self.walks)
                found.append(((person, room, there), after))
        return found


class LoneWalks:
    """The walks of one person whose doors nobody else uses, and who so never comes back to a room.

    For each room, `onward` has the rooms to go on to, and `lengths` the numbers of walks from
    there by their lengths.
    """

    def __init__(self, ways):
        self.onward = {room: [] for room in ways}
        self.lengths = {room: [1] for room in ways}
        # Backwards, each room has got all its walks before it is a step of the room before.
        for room in reversed(list(ways)):
            if ways[room] is not None:
                door, before = ways[room]
                self.onward[before].append(room)
                self.lengths[before] = with_branch(self.lengths[before], self.lengths[room])


class PlansOfStates:
    """The plans from the numbered state `here`, with a table of the numbers of plans from all such states."""

    def __init__(self, here, onward, table):
        self.here = here
        self.onward = onward
        self.table = table

    def number(self, length):
        """Return how many plans have this length."""
        return self.table[length][self.here]

    def choices(self):
        """Return the sorted list of the possible moves, each with the plans after it."""
        return [(move, PlansOfStates(after, self.onward, self.table)) for move, after in self.onward[self.here]]


def with_branch(lengths, branch):
    """Return the numbers of walks by their lengths, with those that begin with a step to a branch."""
    longer = [0] + branch
    longest = max(len(lengths), len(longer))
    filled = [numbers + [0] * (longest - len(numbers)) for numbers in (lengths, longer)]
    return [one + other for one, other in zip(filled[0], filled[1])]


def mixed(first, second):
    """Return the numbers of plans by their lengths that mix one of each, both given by their lengths."""
    numbers = [0] * (len(first) + len(second) - 1)
    for own, one in enumerate(first):
        for others, other in enumerate(second):
            numbers[own + others] += one * other * comb(own + others, own)
    return numbers


def numbered_states(house, state):
    """Return for each state that can come about its sorted list of tuples (move, number of the state after it).

    The given state has the number 0.
    """
    exits = exits_of(house)
    numbers = {state: 0}
    states = [state]
    onward = []
    while len(onward) < len(states):
        found = []
        for move, after in next_states(exits, states[len(onward)]):
            if after not in numbers:
                numbers[after] = len(states)
                states.append(after)
            found.append((move, numbers[after]))
        onward.append(sorted(found))
    return onward


def plan_table(onward, length):
    """Return for each length up to this one the numbers of plans from each of the numbered states."""
    table = [[1] * len(onward)]
    for _ in range(length):
        shorter = table[-1]
        table.append([sum([shorter[after] for move, after in moves]) for moves in onward])
    return table


def need_length(house, state, length):
    """Raise InvalidCount or ProblemTooLarge unless plans of this length from the state can be counted."""
    if not is_whole(length) or length < 0:
        raise InvalidCount()
    if length > MOST_MOVES or (len(state[0]) > 2 and not is_apart(house, state)):
        raise ProblemTooLarge(length)


def plans_up_to(house, state, length):
    """Return the plans of at most this length from the state, as an object that counts them."""
    if is_apart(house, state):
        walks = [LoneWalks(region_ways(house, state, person)) for person in range(len(state[0]))]
        return PlansApart(state[0], walks)
    onward = numbered_states(house, state)
    return PlansOfStates(0, onward, plan_table(onward, length))


def count_plans(house, state, length):
    """Return the number of plans with exactly this many moves that can be played from the state."""
    need_state(house, state)
    need_length(house, state, length)
    return plans_up_to(house, state, length).number(length)


def plan_at(house, state, length, index):
    """Return the plan of that index among those with exactly this many moves, in sorted order."""
    need_state(house, state)
    need_length(house, state, length)
    plans = plans_up_to(house, state, length)
    count = plans.number(length)
    if not is_index(index, count):
        raise IndexTooLarge(count)
    plan = []
    for left in reversed(range(length)):
        move, plans, index = choice_at(plans, left, index)
        plan.append(move)
    return plan


def choice_at(plans, left, index):
    """Return the first move of the plan of that index, the plans after it, and the index among these.

    So many moves are left after the first one. The index must be that of a plan.
    """
    passed = 0
    for move, after in plans.choices():
        number = after.number(left)
        if index < passed + number:
            break
        passed += number
    return (move, after, index - passed)
