"""Encounters: for each two people and each room on the way between them, how they would come to it."""

from lastthrough.houses import steps_between


class Encounter:
    """Two people who come to one room, each along its own doors, and the doors that would have to be opened.

    The steps are tuples (door, start, end), whether the doors bar this person or not.
    """

    def __init__(self, barred, people, steps):
        first, second = people
        self.people = people
        self.steps = steps
        closed = [(door, second) for door, start, end in steps[0] if barred[door] == first]
        closed.extend([(door, first) for door, start, end in steps[1] if barred[door] == second])
        self.changes = sorted(closed)


def all_encounters(house, state):
    """Return the encounters of any two people at any room on the way between them."""
    rooms, barred = state
    found = []
    for first in range(len(rooms)):
        for second in range(first + 1, len(rooms)):
            there = steps_between(house, rooms[first], rooms[second])
            back = steps_between(house, rooms[second], rooms[first])
            for own in range(len(there) + 1):
                steps = (there[:own], back[:len(there) - own])
                found.append(Encounter(barred, (first, second), steps))
    return found
