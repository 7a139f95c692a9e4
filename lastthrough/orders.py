"""Rearranged plans: the smallest one, and how many there are."""

from heapq import heapify, heappop, heappush

from lastthrough.errors import ProblemTooLarge
from lastthrough.houses import doors_by_ends
from lastthrough.states import need_plan

MOST_MOVES = 16


def moves_before(house, plan):
    """Return for each move the last moves before it by the same person and through the same door.

    Each is a list of indexes. A move must stay behind these moves, and so behind all that
    they must stay behind, and can be exchanged with all others.
    """
    doors = doors_by_ends(house)
    last_moves = {}
    last_uses = {}
    found = []
    for index, (person, start, end) in enumerate(plan):
        door = doors[(start, end)]
        found.append([last[key] for last, key in ((last_moves, person), (last_uses, door)) if key in last])
        last_moves[person] = index
        last_uses[door] = index
    return found


def normal_form(house, people, plan):
    """Return the smallest rearrangement of the plan."""
    need_plan(house, people, plan)
    before = moves_before(house, plan)
    behind = [[] for move in plan]
    for index, earlier in enumerate(before):
        for one in earlier:
            behind[one].append(index)
    missing = [len(earlier) for earlier in before]
    queue = [(move, index) for index, move in enumerate(plan) if missing[index] == 0]
    heapify(queue)
    smallest = []
    while queue:
        move, index = heappop(queue)
        smallest.append(move)
        for later in behind[index]:
            missing[later] -= 1
            if missing[later] == 0:
                heappush(queue, (plan[later], later))
    return smallest


def count_rearrangements(house, people, plan):
    """Return the number of different plans that are rearrangements of the plan."""
    need_plan(house, people, plan)
    if len(plan) > MOST_MOVES:
        raise ProblemTooLarge(len(plan))
    # Two orders of the moves are never the same plan, as equal moves keep their order.
    before = [bits_of(earlier) for earlier in moves_before(house, plan)]
    numbers = {0: 1}
    for _ in plan:
        numbers = one_move_longer(numbers, before)
    return sum(numbers.values())


def bits_of(indexes):
    """Return a whole number that has the bits with these indexes."""
    bits = 0
    for index in indexes:
        bits |= 1 << index
    return bits


def one_move_longer(numbers, before):
    """Map each set of moves, as bits, that one more move leads to, to the number of its orders.

    The given dict does so for sets of one move less.
    """
    longer = {}
    for done, number in numbers.items():
        for index, needed in enumerate(before):
            more = done | 1 << index
            if more != done and done & needed == needed:
                longer[more] = longer.get(more, 0) + number
    return longer
