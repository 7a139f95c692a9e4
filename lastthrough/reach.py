"""Reachability: a plan from one state to another one, or a reason why there is none."""

from lastthrough.crowds import Walk, gather_in, soonest_meeting
from lastthrough.errors import MoveBlocked
from lastthrough.houses import exits_of, is_index, steps_between
from lastthrough.reasons import all_reasons, inner_bits, is_split, target_groups, turned_between
from lastthrough.states import check_plan, need_state, need_state_of_as_many, play

REASON_PARTS = {
    "door": ("door",),
    "person": ("person", "door"),
    "bit": ("door",),
    "order": ("door", "door"),
    "walk": ("person",),
    "still": ("door",),
}


class Rewind:
    """The members of a group who take moves back from the target, until they are one crowd in one room."""

    def __init__(self, house, target, group):
        self.target = target
        self.walk = Walk(house, target)
        self.used = {}
        self.crowds = [[person] for person in group.members]


def find_plan(house, start, target):
    """Return a plan from the start to the target, or a reason why there is none."""
    need_state(house, start)
    need_state_of_as_many(house, start, target)
    reasons = all_reasons(house, start, target)
    if reasons:
        return ("never", reasons[0])
    plan = []
    for group in target_groups(house, target):
        plan.extend(group_plan(house, start, target, group))
    return ("plan", plan)


def group_plan(house, start, target, group):
    """Return a plan that leads the members to their rooms in the target, and the doors to whom they bar there."""
    if is_done(start, target, group):
        return []
    if is_split(house, start, group):
        return straight_plan(house, start, target, group)
    return crowd_plan(house, start, target, group)


def is_done(start, target, group):
    """Return whether the members and doors of the group are in the start as in the target."""
    rooms = [start[0][person] == target[0][person] for person in group.members]
    doors = [start[1][door] == target[1][door] for door in group.doors]
    return all(rooms) and all(doors)


def straight_plan(house, start, target, group):
    """Return the plan in which each member walks straight to the room in the target."""
    plan = []
    for person in group.members:
        steps = steps_between(house, start[0][person], target[0][person])
        plan.extend([(person, here, there) for door, here, there in steps])
    return plan


def crowd_plan(house, start, target, group):
    """Return a plan in which the members gather, set all doors as the rest of the plan needs them, and part."""
    rewind = rewound(house, target, group)
    crowd = group.members
    walk = Walk(house, settled_start(house, start, target, group))
    gather_in(walk, crowd, rewind.walk.rooms[crowd[0]])
    set_doors(walk, crowd, needed_bars(rewind, group), None)
    return walk.plan + [(person, end, begin) for person, begin, end in reversed(rewind.walk.plan)]


def rewound(house, target, group):
    """Return the members of a group as one crowd, gathered backwards in time from the target."""
    rewind = Rewind(house, target, group)
    while len(rewind.crowds) > 1:
        merge_crowds(rewind)
    return rewind


def merge_crowds(rewind):
    """Let two crowds take moves back until they meet.

    A crowd can do so through the doors that bar one of its people in the target, and in a
    group there are always two crowds that such doors lead together.
    """
    crowds = rewind.crowds
    opened = [[door for door, who in enumerate(rewind.target[1]) if who in crowd] for crowd in crowds]
    number, first, second, first_doors, second_doors = soonest_meeting(rewind.walk, crowds, opened)
    take_back(rewind, crowds[first], first_doors)
    take_back(rewind, crowds[second], second_doors)
    others = [crowd for at, crowd in enumerate(crowds) if at != first and at != second]
    rewind.crowds = others + [crowds[first] + crowds[second]]


def take_back(rewind, crowd, doors):
    """Let a crowd take moves back through the doors, one after the other."""
    for door in doors:
        if door in rewind.used:
            # The move before it was by anybody else, so this is as forwards in time.
            rewind.walk.cross(crowd, door)
        else:
            # The last move through the door was by the one whom it bars in the target.
            last = rewind.target[1][door]
            for person in [last] + [who for who in crowd if who != last]:
                rewind.walk.step(person, door)
            rewind.used[door] = True


def needed_bars(rewind, group):
    """Map each door of the group to the person whom it must bar before the moves that were taken back."""
    needed = {}
    for door in group.doors:
        person = rewind.walk.barred[door]
        if door in rewind.used:
            # The first of these moves through the door is by this person.
            person = [who for who in group.members if who != person][0]
        needed[door] = person
    return needed


def settled_start(house, start, target, group):
    """Return the start, but for a group with two members as if no door of the group barred somebody else.

    Both can go through a door that bars somebody else. But as it must get the inner bit of
    the target, the right one has to go first.
    """
    if len(group.members) != 2:
        return start
    before = inner_bits(house, start, group)
    after = inner_bits(house, target, group)
    settled = turned_between(house, start, group, {door: after[door] for door in group.doors if door not in before})
    barred = [settled.get(door, who) for door, who in enumerate(start[1])]
    return (start[0], tuple(barred))


def set_doors(walk, crowd, needed, came):
    """Let a crowd go through all doors in sight and back, but not back through the one by which it came.

    In the end each of these doors bars the person who is needed. A crowd of two has no choice,
    but as the inner bits are right, going to and fro is enough.
    """
    for door, there in exits_of(walk.house)[walk.rooms[crowd[0]]]:
        if door in needed and door != came:
            walk.cross(crowd, door)
            set_doors(walk, crowd, needed, door)
            walk.cross(crowd, door)
            set_door(walk, crowd, door, needed[door])


def set_door(walk, crowd, door, person):
    """Let two people of a crowd go through the door and back, so that it bars this person."""
    before = walk.barred[door]
    if before != person:
        other = [who for who in crowd if who != person and who != before][0]
        for walker in [other, person, other, person]:
            walk.step(walker, door)


def is_reason(house, start, value):
    """Return whether the value has one of the forms of a reason, with doors and persons."""
    if not isinstance(value, tuple) or len(value) == 0 or not isinstance(value[0], str):
        return False
    if value[0] not in REASON_PARTS:
        return False
    parts = REASON_PARTS[value[0]]
    limits = {"door": len(house), "person": len(start[0])}
    if len(value) != len(parts) + 1:
        return False
    return all([is_index(number, limits[part]) for number, part in zip(value[1:], parts)])


def is_answer(house, start, value):
    """Return whether the value has the form of a result of find_plan."""
    if not isinstance(value, tuple) or len(value) != 2:
        return False
    word, told = value
    if word == "plan":
        return check_plan(house, len(start[0]), told) is None
    return word == "never" and is_reason(house, start, told)


def check_reach(house, start, target, claim):
    """Return None for a valid result of find_plan, otherwise the first fault of the claim."""
    need_state(house, start)
    need_state_of_as_many(house, start, target)
    if not is_answer(house, start, claim):
        return ("form",)
    word, told = claim
    if word == "plan":
        return plan_fault(house, start, target, told)
    if told not in all_reasons(house, start, target):
        return ("reason",)
    return None


def plan_fault(house, start, target, plan):
    """Return the first fault of a plan that should lead from the start to the target, or None."""
    try:
        after = play(house, start, plan)
    except MoveBlocked as blocked:
        return ("blocked", blocked.index)
    if after != target:
        return ("result",)
    return None
