"""Crowds: people who meet, fetch the others and go through the house together."""

from lastthrough.houses import doors_between


class Walk:
    """People on their way: their rooms, whom the doors bar, and the plan of the moves so far."""

    def __init__(self, house, state):
        self.house = house
        self.rooms = list(state[0])
        self.barred = list(state[1])
        self.plan = []

    def step(self, person, door):
        """Let the person go through the door."""
        a, b = self.house[door]
        start = self.rooms[person]
        end = b if start == a else a
        self.rooms[person] = end
        self.barred[door] = person
        self.plan.append((person, start, end))

    def cross(self, crowd, door):
        """Let all people of a crowd in one room go through the door."""
        late = self.barred[door]
        # The one whom the door bars can go as soon as somebody else went.
        for person in [who for who in crowd if who != late] + [who for who in crowd if who == late]:
            self.step(person, door)

    def lead(self, crowd, doors):
        """Let a crowd in one room go through the doors, one after the other."""
        for door in doors:
            self.cross(crowd, door)

    def doors_to(self, person, room):
        """Return the doors on the way of the person to the room."""
        return doors_between(self.house, self.rooms[person], room)


def shared_path(doors, first_open, second_open):
    """Return the doors of a path that the ones at its two ends go through to meet, or None if they cannot.

    Each of the two goes only through doors that are open to this one.
    """
    taken = 0
    while taken < len(doors) and doors[taken] in first_open:
        taken += 1
    left = doors[taken:]
    if not all([door in second_open for door in left]):
        return None
    return (doors[:taken], left[::-1])


def soonest_meeting(walk, crowds, opened):
    """Return a tuple (number of doors between, first, second, doors of the first, doors of the second).

    It tells the numbers of the two nearest crowds that can meet on the path between them, and
    how; some two must be able to. The doors opened[k] are those that crowd k can go through.
    """
    meetings = []
    for first in range(len(crowds)):
        for second in range(first + 1, len(crowds)):
            doors = walk.doors_to(crowds[first][0], walk.rooms[crowds[second][0]])
            shares = shared_path(doors, opened[first], opened[second])
            if shares is not None:
                meetings.append((len(doors), first, second, shares[0], shares[1]))
    return min(meetings)


def doors_not_barring(walk, person):
    """Return the list of the doors that do not bar the person."""
    return [door for door, who in enumerate(walk.barred) if who != person]


def meet_soonest(walk, people):
    """Let the two of the people meet who need the fewest moves, and return them; some two must be able to.

    If two regions have a room in common, they have one on the path between the two people.
    """
    crowds = [[person] for person in people]
    opened = [doors_not_barring(walk, person) for person in people]
    number, first, second, first_doors, second_doors = soonest_meeting(walk, crowds, opened)
    walk.lead(crowds[first], first_doors)
    walk.lead(crowds[second], second_doors)
    return crowds[first] + crowds[second]


def gather_in(walk, people, room):
    """Let two of the people meet, fetch the others and go to the room together; some two must be able to meet."""
    crowd = meet_soonest(walk, people)
    for person in people:
        if person not in crowd:
            walk.lead(crowd, walk.doors_to(crowd[0], walk.rooms[person]))
            crowd = crowd + [person]
    walk.lead(crowd, walk.doors_to(crowd[0], room))
