"""Joined beats: reactions that do at once what two agreeing ones do behind each other."""

from loosebeats.checks import check_reached, check_standing, check_streams
from loosebeats.errors import InvalidRun, NotSmooth
from loosebeats.forks import agreeing, cheapest
from loosebeats.kinds import is_below, is_tuple
from loosebeats.machines import do_agree, heads
from loosebeats.runs import stands_at
from loosebeats.steps import first_place, first_step, full_way, no_spots, queues_of, steps_of


def left_of(both, takes):
    """What the takes leave of the heads."""
    return {line: worth for line, worth in both.items() if line not in takes}


def given_behind(gives, more):
    """The gives of both together; None if both give on one out-line."""
    return None if any([line in gives for line in more]) else {**gives, **more}


def ways_through(machine, number, both):
    """What the reaction and one behind it, that takes just what it leaves of the heads, come to:
    a list of tuples (next, gives), by rising numbers of the one behind it."""
    _, takes, gives, goal = machine[number]
    left = left_of(both, takes)
    rows = [machine[behind] for behind in machine.at(goal)]
    told = [(later, given_behind(gives, more)) for _, needs, more, later in rows if needs == left]
    return [way for way in told if way[1] is not None]


def is_through(machine, number, both, way):
    """Tells whether the reaction comes to the tuple (next, gives) of a joined one."""
    _, takes, gives, goal = machine[number]
    if takes == both:
        return (goal, gives) == way
    return way in ways_through(machine, number, both)


def joined(machine, one, other):
    """The number of the joined reaction of two; None if there is none."""
    both = heads(machine, one, other)
    for number in machine.at(machine[one][0]):
        _, takes, gives, goal = machine[number]
        way = (goal, gives)
        if takes == both and is_through(machine, one, both, way) and is_through(machine, other, both, way):
            return number
    return None


def first_rough(machine):
    """The first two agreeing reactions of a reached standing without a joined one; None if there are none."""
    # Two with equal takes agree, and neither can be the joined one of both.
    for one, other in agreeing(machine):
        if joined(machine, one, other) is None:
            return (one, other)
    return None


def is_smooth(machine):
    """Tells whether each two agreeing reactions of a reached standing have a joined one."""
    return first_rough(machine) is None


def rough_place(machine):
    """A rough place; None if the machine is smooth."""
    pair = first_rough(machine)
    if pair is None:
        return None
    one, other = pair
    _, run = cheapest(machine)[machine[one][0]]
    return (run, one, other)


def is_rough_place(machine, value):
    """Tells whether any value is a rough place of the machine."""
    if not is_tuple(value, 3):
        return False
    run, one, other = value
    if not is_below(one, len(machine)) or not is_below(other, len(machine)) or one >= other:
        return False
    try:
        standing = stands_at(machine, run)
    except InvalidRun:
        return False
    if machine[one][0] != standing or not do_agree(machine, one, other):
        return False
    return joined(machine, one, other) is None


def reaction_for(machine, one, other):
    """The joined reaction that two agreeing ones lack and that can be added; None if there is none."""
    standing = machine[one][0]
    both = heads(machine, one, other)
    if any([machine[number][1] == both for number in machine.at(standing)]):
        return None
    others = ways_through(machine, other, both)
    for way in ways_through(machine, one, both):
        if way in others:
            goal, gives = way
            return (standing, both, gives, goal)
    return None


def first_addition(machine):
    """The reaction that is added first; None if there is none to add."""
    for _, one, other in sorted([(machine[one][0], one, other) for one, other in agreeing(machine)]):
        reaction = reaction_for(machine, one, other)
        if reaction is not None:
            return reaction
    return None


def filled(machine):
    """The machine with all joined reactions that can be added."""
    full = machine
    reaction = first_addition(full)
    while reaction is not None:
        # This raises TooMany if there is no room for it.
        full = full + reaction
        reaction = first_addition(full)
    return full


def greatest_first(machine):
    """For each standing the list of its steps, those that take the most ahead."""
    return [sorted(steps, key=lambda step: -len(step[1])) for steps in steps_of(machine)]


def check_smooth(machine):
    """Raises NotSmooth unless the machine is smooth."""
    if not is_smooth(machine):
        raise NotSmooth()


def greatest(machine, standing, streams):
    """The number of the greatest reaction that can be done; None if none can."""
    check_standing(machine, standing)
    check_streams(machine, streams)
    check_smooth(machine)
    check_reached(machine, standing)
    step = first_step(greatest_first(machine)[standing], queues_of(machine, streams), no_spots(machine))
    return None if step is None else step[0]


def by_greatest(machine, streams):
    """The full run that always does the greatest reaction that can be done."""
    check_streams(machine, streams)
    check_smooth(machine)
    way = full_way(greatest_first(machine), queues_of(machine, streams), first_place(machine))
    return [step[0] for step in way]
