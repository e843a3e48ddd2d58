"""Reactions done one behind another.

A STEP is a tuple (number, takes, gives, next) of a reaction of some standing: takes and
gives are tuples of pairs (place of the line, worth). QUEUES are a list with, for each
in-line, its whole stream. SPOTS are a tuple that tells how much of each queue is taken.
A PLACE is a tuple (standing, spots, flows): so far a run has come. A WAY is the list of
the steps of a run.
"""

from loosebeats.errors import InvalidRun
from loosebeats.kinds import is_integer, is_list


def placed(worths, lines):
    """Takes or gives as a tuple of pairs (place of the line, worth)."""
    return tuple([(lines.index(line), worth) for line, worth in worths.items()])


def steps_of(machine):
    """For each standing the list of its steps, by rising numbers."""
    ins = machine.ins
    outs = machine.outs
    steps = [[] for _ in range(machine.standings)]
    for number, (standing, takes, gives, goal) in enumerate(machine.reactions()):
        steps[standing].append((number, placed(takes, ins), placed(gives, outs), goal))
    return steps


def step_numbered(steps, number):
    """The one of the steps that has this number; None if there is none."""
    # True is equal to 1, and must not be found for it.
    if not is_integer(number):
        return None
    for step in steps:
        if step[0] == number:
            return step
    return None


def queues_of(machine, streams):
    """The queues of valid streams."""
    return [list(streams.get(line, [])) for line in machine.ins]


def no_spots(machine):
    """The spots at which nothing is taken yet."""
    return tuple([0 for _ in machine.ins])


def no_flows(machine):
    """The flows on which nothing was given yet."""
    return tuple([() for _ in machine.outs])


def can_take(takes, queues, spots):
    """Tells whether each worth of the takes is the first one that is left on its queue."""
    return all([spots[at] < len(queues[at]) and queues[at][spots[at]] == worth for at, worth in takes])


def spots_behind(spots, takes):
    """The spots when the takes are taken, too."""
    lines = dict(takes)
    return tuple([spot + 1 if at in lines else spot for at, spot in enumerate(spots)])


def flows_behind(flows, gives):
    """The flows when the gives are given, too."""
    worths = dict(gives)
    return tuple([flow + (worths[at],) if at in worths else flow for at, flow in enumerate(flows)])


def first_place(machine):
    """The place at which each run begins."""
    return (0, no_spots(machine), no_flows(machine))


def place_behind(place, way):
    """The place to which the steps of a way lead."""
    standing, spots, flows = place
    # Tuples that grow by one worth at each step would cost too much on long ways.
    given = [list(flow) for flow in flows]
    for _, takes, gives, goal in way:
        spots = spots_behind(spots, takes)
        standing = goal
        for at, worth in gives:
            given[at].append(worth)
    return (standing, spots, tuple([tuple(flow) for flow in given]))


def end_at(queues, place):
    """The END of a run that has come to this place."""
    standing, spots, flows = place
    rests = tuple([tuple(queue[spot:]) for queue, spot in zip(queues, spots)])
    return (standing, rests, flows)


def first_step(steps, queues, spots):
    """The first one of the steps that can be done; None if none can."""
    for step in steps:
        if can_take(step[1], queues, spots):
            return step
    return None


def full_way(steps, queues, place):
    """What is done from a place on, always the first step that can be, until none can."""
    standing, spots, _ = place
    way = []
    step = first_step(steps[standing], queues, spots)
    while step is not None:
        way.append(step)
        spots = spots_behind(spots, step[1])
        standing = step[3]
        step = first_step(steps[standing], queues, spots)
    return way


def way_from(steps, queues, place, run):
    """The steps of a run of the queues from a place on; raises InvalidRun if it is none."""
    if not is_list(run):
        raise InvalidRun(None)
    standing, spots, _ = place
    way = []
    for position, number in enumerate(run):
        step = step_numbered(steps[standing], number)
        if step is None or not can_take(step[1], queues, spots):
            raise InvalidRun(position)
        way.append(step)
        spots = spots_behind(spots, step[1])
        standing = step[3]
    return way


def place_of_run(machine, queues, run):
    """The place to which a run of the queues leads; raises InvalidRun if it is none."""
    place = first_place(machine)
    return place_behind(place, way_from(steps_of(machine), queues, place, run))


def way_of_run(machine, run):
    """The list of the steps of a run that leads on; raises InvalidRun if it does not."""
    if not is_list(run):
        raise InvalidRun(None)
    steps = steps_of(machine)
    standing = 0
    way = []
    for position, number in enumerate(run):
        step = step_numbered(steps[standing], number)
        if step is None:
            raise InvalidRun(position)
        way.append(step)
        standing = step[3]
    return way
