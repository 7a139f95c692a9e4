"""Sessions: a state that changes move by move, and steps that can be taken back."""

from lastthrough.errors import MoveBlocked, NothingToUndo
from lastthrough.houses import doors_by_ends, need_room
from lastthrough.states import need_person, need_plan, need_state, played


class Session:
    """A house, its current state, and the moves made since the start.

    For each step that can be taken back, `steps` has the number of moves and the state before it.
    """

    def __init__(self, house, state):
        need_state(house, state)
        self.house = house
        self.doors = doors_by_ends(house)
        self.here = state
        self.made = []
        self.steps = []

    def go(self, person, room):
        """Make one move of the person to a neighbouring room and return the new state."""
        need_person(self.here, person)
        need_room(self.house, room)
        rooms, barred = self.here
        start = rooms[person]
        if (start, room) not in self.doors:
            raise MoveBlocked(len(self.made), ("away",))
        if barred[self.doors[(start, room)]] == person:
            raise MoveBlocked(len(self.made), ("barred",))
        return self.make([(person, start, room)])

    def play(self, plan):
        """Make all moves of the plan as one step and return the new state."""
        need_plan(self.house, len(self.here[0]), plan)
        return self.make(plan)

    def make(self, plan):
        """Make all moves of a plan that was checked as one step and return the new state."""
        after = played(self.doors, self.here, plan)
        self.steps.append((len(self.made), self.here))
        self.made.extend(list(plan))
        self.here = after
        return after

    def undo(self):
        """Take back the last step."""
        if len(self.steps) == 0:
            raise NothingToUndo()
        number, self.here = self.steps.pop()
        del self.made[number:]

    def state(self):
        """Return the current state."""
        return self.here

    def moves(self):
        """Return the list of all moves made since the start and not taken back."""
        return list(self.made)

    def copy(self):
        """Return an independent session with the same state, the same moves and the same steps to undo."""
        twin = Session(self.house, self.here)
        twin.made = list(self.made)
        twin.steps = list(self.steps)
        return twin

    def __len__(self):
        return len(self.made)

    def __eq__(self, other):
        if not isinstance(other, Session):
            return False
        return self.house == other.house and self.here == other.here and self.made == other.made
