"""The groups of a target, and the reasons why it cannot come about from a start."""

from lastthrough.houses import doors_between, ways_from
from lastthrough.origins import explained_doors, groups


class Group:
    """A group of the target: its rooms, its doors and its members, each ascending."""

    def __init__(self, rooms, doors, members):
        self.rooms = rooms
        self.doors = doors
        self.members = members


def target_groups(house, target):
    """Return the list of the groups of the target."""
    found = []
    for rooms in groups(house, target):
        doors = [door for door, (a, b) in enumerate(house) if a in rooms and b in rooms]
        members = [person for person, room in enumerate(target[0]) if room in rooms]
        found.append(Group(rooms, doors, members))
    return found


def starts_inside(start, group):
    """Return whether all members are in the group in the start, too."""
    return all([start[0][person] in group.rooms for person in group.members])


def inner_region(house, start, group, person):
    """Return the ascending inner region of a member who is in the group in the start, too."""
    shut = [door for door, who in enumerate(start[1]) if who == person or door not in group.doors]
    return sorted(ways_from(house, start[0][person], shut))


def is_split(house, start, group):
    """Return whether the group is split."""
    if not starts_inside(start, group):
        return False
    rooms = []
    for person in group.members:
        rooms.extend(inner_region(house, start, group, person))
    return len(set(rooms)) == len(rooms)


def path_of(house, start, target, person):
    """Return the doors on the path from the room of the person in the start to the one in the target."""
    return doors_between(house, start[0][person], target[0][person])


def turned_between(house, state, group, persons):
    """Return the dict of doors and members with the other member for each door between the two members."""
    first, second = group.members
    between = doors_between(house, state[0][first], state[0][second])
    return {door: first + second - who if door in between else who for door, who in persons.items()}


def inner_bits(house, state, group):
    """Map each door of a group with two members that bars one of them to its inner bit."""
    barred = {door: state[1][door] for door in group.doors if state[1][door] in group.members}
    return turned_between(house, state, group, barred)


def outer_reasons(house, start, target):
    """Return the reasons of the doors that are not explained, and of the people who are on their wrong side."""
    explained = explained_doors(house, target)
    still = [door for door in range(len(house)) if door not in explained]
    found = [("door", door) for door in still if start[1][door] != target[1][door]]
    for person in range(len(start[0])):
        path = path_of(house, start, target, person)
        found.extend([("person", person, door) for door in still if door in path])
    return found


def bit_reasons(house, start, target, group):
    """Return the reasons of the doors of a group with two members whose inner bits differ."""
    before = inner_bits(house, start, group)
    after = inner_bits(house, target, group)
    return [("bit", door) for door in group.doors if door in before and before[door] != after[door]]


def order_reasons(house, start, target, group):
    """Return the reasons of two doors in the wrong order between two members, who are not split."""
    first, second = group.members
    bits = inner_bits(house, target, group)
    doors = doors_between(house, start[0][first], start[0][second])
    found = []
    for place, door in enumerate(doors):
        if bits[door] == second:
            found.extend([("order", door, later) for later in doors[place + 1:] if bits[later] == first])
    return found


def walk_reasons(house, start, target, group):
    """Return the reasons of the members of a split group who cannot walk to their rooms in the target."""
    found = []
    for person in group.members:
        path = path_of(house, start, target, person)
        inner = inner_region(house, start, group, person)
        if target[0][person] not in inner or any([target[1][door] != person for door in path]):
            found.append(("walk", person))
    return found


def still_reasons(house, start, target, group):
    """Return the reasons of the doors of a split group that nobody uses, but that differ."""
    used = []
    for person in group.members:
        used.extend(path_of(house, start, target, person))
    return [("still", door) for door in group.doors if door not in used and start[1][door] != target[1][door]]


def inside_reasons(house, start, target, group):
    """Return the reasons of the doors and members of one group."""
    found = []
    split = is_split(house, start, group)
    if len(group.members) == 2:
        found.extend(bit_reasons(house, start, target, group))
        if starts_inside(start, group) and not split:
            found.extend(order_reasons(house, start, target, group))
    if split:
        found.extend(walk_reasons(house, start, target, group))
        found.extend(still_reasons(house, start, target, group))
    return found


def all_reasons(house, start, target):
    """Return the list of all reasons that apply; if there is none, the target can come about."""
    found = outer_reasons(house, start, target)
    for group in target_groups(house, target):
        found.extend(inside_reasons(house, start, target, group))
    return found
