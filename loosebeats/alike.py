"""Whether all full runs of all streams end alike, and the papers that show it."""

from loosebeats.checks import check_streams
from loosebeats.errors import InvalidRun, NotAlike
from loosebeats.forks import Forks, agreeing, cheapest
from loosebeats.kinds import are_integers, are_streams, is_list, is_tuple
from loosebeats.machines import check_agreeing, heads
from loosebeats.runs import taken
from loosebeats.steps import (
    end_at,
    first_place,
    first_step,
    full_way,
    no_flows,
    no_spots,
    place_behind,
    place_of_run,
    queues_of,
    steps_of,
    way_from,
)


def closing(machine, one, other):
    """A closing of two reactions; None if they do not close."""
    return Forks(machine).closing(one, other)


def meets(machine, queues, one, run, other, run_too):
    """Tells whether two runs by heads, behind the one and behind the other, end alike."""
    steps = steps_of(machine)
    place = (machine[one][0], no_spots(machine), no_flows(machine))
    try:
        way = way_from(steps, queues, place, [one] + list(run))
        way_too = way_from(steps, queues, place, [other] + list(run_too))
    except InvalidRun:
        return False
    return place_behind(place, way) == place_behind(place, way_too)


def is_closing(machine, one, other, value):
    """Tells whether any value is a closing of two reactions."""
    check_agreeing(machine, one, other)
    if not is_tuple(value, 2) or not is_list(value[0]) or not is_list(value[1]):
        return False
    queues = queues_of(machine, {line: [worth] for line, worth in heads(machine, one, other).items()})
    return meets(machine, queues, one, value[0], other, value[1])


def is_alike(machine):
    """Tells whether for all streams all full runs end alike."""
    return Forks(machine).least_open() is None


def closings(machine):
    """The closings of the machine; None if it is not alike."""
    forks = Forks(machine)
    found = {}
    for one, other in agreeing(machine):
        told = forks.closing(one, other)
        if told is None:
            return None
        found[(one, other)] = told
    return found


def are_closings(machine, value):
    """Tells whether any value is the closings of the machine."""
    if not isinstance(value, dict):
        return False
    pairs = agreeing(machine)
    for pair, told in value.items():
        # (0, True) is equal to (0, 1), and must not stand for it.
        if not is_tuple(pair, 2) or not are_integers(pair) or pair not in pairs:
            return False
        if not is_closing(machine, pair[0], pair[1], told):
            return False
    return len(value) == len(pairs)


def full_behind(machine, queues, run):
    """A full run of the queues that begins with this one."""
    way = full_way(steps_of(machine), queues, place_of_run(machine, queues, run))
    return run + [step[0] for step in way]


def quarrel(machine):
    """Streams with two full runs that end unlike, of the fewest worths; None if there are none."""
    row = Forks(machine).least_open()
    if row is None:
        return None
    _, one, other = row
    _, run = cheapest(machine)[machine[one][0]]
    streams = taken(machine, run)
    both = heads(machine, one, other)
    streams = {line: streams.get(line, []) + ([both[line]] if line in both else []) for line in machine.ins}
    streams = {line: worths for line, worths in streams.items() if len(worths) > 0}
    queues = queues_of(machine, streams)
    return (streams, full_behind(machine, queues, run + [one]), full_behind(machine, queues, run + [other]))


def full_place(machine, queues, run):
    """The place to which a full run of the queues leads; None for any value that is none."""
    try:
        place = place_of_run(machine, queues, run)
    except InvalidRun:
        return None
    standing, spots, _ = place
    return place if first_step(steps_of(machine)[standing], queues, spots) is None else None


def is_quarrel(machine, value):
    """Tells whether any value is a quarrel of the machine."""
    if not is_tuple(value, 3) or not are_streams(value[0], machine.ins):
        return False
    queues = queues_of(machine, value[0])
    place = full_place(machine, queues, value[1])
    place_too = full_place(machine, queues, value[2])
    return place is not None and place_too is not None and place != place_too


def least_quarrel(machine):
    """How many worths the streams of a quarrel have at the fewest; None if there is none."""
    row = Forks(machine).least_open()
    return None if row is None else row[0]


def check_alike(machine, which):
    """Raises NotAlike unless the machine, which is the first or the second one, is alike."""
    if not is_alike(machine):
        raise NotAlike(which)


def full_end(machine, streams):
    """The END of the full run of valid streams that always does the reaction of the least number."""
    queues = queues_of(machine, streams)
    place = first_place(machine)
    return end_at(queues, place_behind(place, full_way(steps_of(machine), queues, place)))


def end(machine, streams):
    """The END of all full runs of the streams."""
    check_streams(machine, streams)
    check_alike(machine, 0)
    return full_end(machine, streams)
