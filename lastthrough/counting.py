"""Counting: the states of a house, those of some kinds, and those that can come about."""

from math import factorial

from lastthrough.houses import need_house, ways_from
from lastthrough.regions import is_apart, region_ways
from lastthrough.states import need_people


class Tally:
    """The numbers of ways to fill the part of a house below a room and this room, by the number of people.

    In `out` the room belongs to no region, in `empty` to a region whose person is not placed
    yet, and in `full` to a region whose person is placed. One person is like another one here.
    """

    def __init__(self, out, empty, full):
        self.out = out
        self.empty = empty
        self.full = full


def power(base, exponent):
    """Return the base to the power of the exponent, which is 0 or more."""
    result = 1
    for _ in range(exponent):
        result *= base
    return result


def count_states(house, people):
    """Return the number of states of the house with so many people."""
    need_house(house)
    need_people(people)
    return power(len(house) + 1, people) * power(people, len(house))


def count_apart(house, people):
    """Return how many states of the house with so many people are apart."""
    need_house(house)
    need_people(people)
    return count_spread(house, people, people - 1)


def count_frozen(house, people):
    """Return in how many states of the house with so many people no move is possible."""
    need_house(house)
    need_people(people)
    if len(house) == 0:
        return count_states(house, people)
    # With a door, nobody can move exactly if all are apart, each in a region of one room.
    return count_spread(house, people, 0)


def count_spread(house, people, inside):
    """Return how many states are apart, if a door in a region is counted as often as `inside` tells.

    Regions that are apart are not even neighbours, as a door between them would have to bar
    two people. So a door between a region and no region bars one certain person, and a door
    of no region anybody.
    """
    ways = ways_from(house, 0, [])
    tallies = [lone_tally(people) for room in ways]
    # Backwards, each room has got all its branches before it is joined to the next room.
    for room in reversed(list(ways)):
        if ways[room] is not None:
            door, there = ways[room]
            tallies[there] = joined(tallies[there], tallies[room], people, inside)
    whole = tallies[0]
    return (whole.out[people] + whole.full[people]) * factorial(people)


def lone_tally(people):
    """Return the tally of a room with nothing below it, for up to so many people."""
    nobody = [1] + [0] * people
    return Tally(nobody, nobody, [0] + nobody[:-1])


def joined(above, below, people, inside):
    """Return the tally of a room together with the part of the house behind one more door."""
    outside = added(scaled(below.out, people), below.full)
    closed = added(below.out, scaled(below.empty, inside))
    full = added(multiplied(above.full, closed), multiplied(above.empty, scaled(below.full, inside)))
    return Tally(multiplied(above.out, outside), multiplied(above.empty, closed), full)


def scaled(numbers, factor):
    """Return the numbers times the factor."""
    return [number * factor for number in numbers]


def added(first, second):
    """Return the sums of the numbers at the same place."""
    return [one + other for one, other in zip(first, second)]


def multiplied(first, second):
    """Return the numbers of ways to fill two parts, by the number of people in both together."""
    return [sum([first[at] * second[many - at] for at in range(many + 1)]) for many in range(len(first))]


def count_following(house, state):
    """Return how many states can come about from a state that is apart, otherwise None."""
    if not is_apart(house, state):
        return None
    number = 1
    for person in range(len(state[0])):
        number *= len(region_ways(house, state, person))
    return number
