"""Shortest plans, by a search through the states."""

from lastthrough.counting import count_states
from lastthrough.errors import ProblemTooLarge
from lastthrough.houses import exits_of
from lastthrough.states import need_state, need_state_of_as_many, next_states

MOST_STATES = 20000


def shortest_plan(house, start, target):
    """Return a plan with as few moves as possible from the start to the target, or None if there is none."""
    need_state(house, start)
    need_state_of_as_many(house, start, target)
    count = states_to_search(house, len(start[0]))
    if count > MOST_STATES:
        raise ProblemTooLarge(count)
    return searched_plan(house, start, target)


def states_to_search(house, people):
    """Return a number of states that a search with so many people does not exceed."""
    if people == 2:
        # The kept bits stay, so that the rooms tell the whole state.
        return count_states(house, 1) * count_states(house, 1)
    return count_states(house, people)


def searched_plan(house, start, target):
    """Return a shortest plan between two states, however many there are, or None if there is none."""
    arrivals = arrivals_before(house, start, target)
    if target not in arrivals:
        return None
    moves = []
    arrival = arrivals[target]
    while arrival is not None:
        before, move = arrival
        moves.append(move)
        arrival = arrivals[before]
    return moves[::-1]


def arrivals_before(house, start, target):
    """Map each state that the search sees to the first way into it, a tuple (state before, move).

    The start is mapped to None. The search ends with the target or when nothing new can be seen.
    """
    exits = exits_of(house)
    arrivals = {start: None}
    newest = [start]
    while newest and target not in arrivals:
        found = []
        for here in newest:
            for move, after in next_states(exits, here):
                if after not in arrivals:
                    arrivals[after] = (here, move)
                    found.append(after)
        newest = found
    return arrivals
