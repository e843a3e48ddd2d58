"""Pairs: two machines with stores between them, and what the stores must hold."""

from loosebeats.alike import check_alike
from loosebeats.beats import Walk, all_bounds, check_bounds, check_sizes, no_bounds
from loosebeats.checks import check_streams
from loosebeats.contents import Contents
from loosebeats.errors import InvalidRooms, InvalidRun, NoStore, SharedLine, TooMany
from loosebeats.kinds import are_streams, is_line, is_name, is_tuple
from loosebeats.machines import Machine
from loosebeats.searches import Search

MOST_STORES = 2
MOST_PAIR_WORTHS = 12


def stores_of(first, second):
    """The list of the stores between two machines; raises the error of machines that are no pair."""
    lines = second.ins + second.outs
    for line in first.ins + first.outs:
        if line in lines and not (line in first.outs and line in second.ins):
            raise SharedLine(line)
    stores = [line for line in first.outs if line in second.ins]
    if len(stores) == 0:
        raise NoStore()
    if len(stores) > MOST_STORES:
        raise TooMany("stores", MOST_STORES)
    return stores


class Pair:
    """Two machines, the second of which takes from stores what the first gives; it never changes."""

    def __init__(self, first, second):
        self._stores = tuple(stores_of(first, second))
        self._first = first
        self._second = second

    @property
    def first(self):
        """The machine that gives to the stores."""
        return self._first

    @property
    def second(self):
        """The machine that takes from the stores."""
        return self._second

    @property
    def stores(self):
        """The list of the stores, in the first machine's sequence."""
        return list(self._stores)

    @property
    def ins(self):
        """The list of the in-lines."""
        return self._first.ins + [line for line in self._second.ins if line not in self._stores]

    @property
    def outs(self):
        """The list of the out-lines."""
        return [line for line in self._first.outs if line not in self._stores] + self._second.outs

    def __eq__(self, other):
        return isinstance(other, Pair) and self._first == other._first and self._second == other._second

    def __repr__(self):
        return f"Pair({self._first!r}, {self._second!r})"


def are_within(one, other):
    """Tells whether each size of the one is at most that of the other."""
    return all([size <= most for size, most in zip(one, other)])


def check_few(pair, streams):
    """Raises the error of streams all of whose runs cannot be looked at."""
    check_streams(pair, streams)
    if sum([len(worths) for worths in streams.values()]) > MOST_PAIR_WORTHS:
        raise TooMany("worths", MOST_PAIR_WORTHS)


def pair_run_end(pair, streams, run, sizes=None):
    """The END of a run of the streams with the sizes."""
    check_streams(pair, streams)
    bounds = no_bounds(pair) if sizes is None else sizes
    check_sizes(pair, bounds)
    walk = Walk(pair, streams, bounds)
    walk.take_run(run)
    return walk.pair_place()


def pair_end(pair, streams):
    """The END of all full runs of the streams without bounds."""
    check_streams(pair, streams)
    check_alike(pair.first, 0)
    check_alike(pair.second, 1)
    walk = Walk(pair, streams, no_bounds(pair))
    walk.take_all()
    return walk.pair_place()


def pair_ends(pair, streams, sizes=None):
    """The sorted list of the ENDs of all full runs of the streams with the sizes."""
    check_few(pair, streams)
    bounds = no_bounds(pair) if sizes is None else sizes
    check_sizes(pair, bounds)
    return Search(pair, streams, bounds).pair_ends()


def are_enough(pair, streams, sizes):
    """Tells whether each full run of the streams with the sizes is also full without bounds."""
    check_few(pair, streams)
    check_sizes(pair, sizes)
    return Search(pair, streams, sizes).is_enough()


def least_enough(pair, is_enough):
    """The sorted list of the least sizes without None of which is_enough tells that they are."""
    found = []
    # They come sorted, so lesser ones are known when those that are as great or greater come.
    for sizes in all_bounds(pair):
        if not any([are_within(less, sizes) for less in found]) and is_enough(sizes):
            found.append(sizes)
    return found


def least_sizes(pair, streams):
    """The sorted list of the least sizes that are enough for the streams."""
    check_few(pair, streams)
    return least_enough(pair, lambda sizes: Search(pair, streams, sizes).is_enough())


def are_always_enough(pair, sizes):
    """Tells whether the sizes are enough for all streams."""
    check_bounds(pair, sizes)
    return Contents(pair, sizes).is_enough()


def standstill(pair, sizes):
    """A standstill with the sizes; None if they are enough for all streams."""
    check_bounds(pair, sizes)
    return Contents(pair, sizes).standstill()


def is_standstill(pair, sizes, value):
    """Tells whether any value is a standstill with the sizes."""
    check_bounds(pair, sizes)
    if not is_tuple(value, 2) or not are_streams(value[0], pair.ins):
        return False
    walk = Walk(pair, value[0], sizes)
    try:
        walk.take_run(value[1])
    except InvalidRun:
        return False
    return walk.next_step() is None and walk.lacks_room()


def always_least(pair):
    """The sorted list of the least sizes that are enough for all streams."""
    # With the greatest sizes most is come to: if that is too many, the error is raised here.
    Contents(pair, all_bounds(pair)[-1]).ways()
    return least_enough(pair, lambda sizes: Contents(pair, sizes).is_enough())


def are_rooms(machine, value):
    """Tells whether any value gives out-lines of the machine rooms."""
    if not isinstance(value, dict):
        return False
    outs = machine.outs
    lines = machine.ins + outs
    if not all([is_line(line, outs) and is_name(room) and room not in lines for line, room in value.items()]):
        return False
    return len(set(list(value.values()))) == len(value)


def with_rooms(machine, rooms):
    """The Machine that takes a 0 from a room for each worth that it gives on the room's out-line."""
    if not are_rooms(machine, rooms):
        raise InvalidRooms(rooms)
    ins = machine.ins + [rooms[line] for line in machine.outs if line in rooms]
    reactions = []
    for standing, takes, gives, goal in machine.reactions():
        needs = {rooms[line]: 0 for line in gives if line in rooms}
        reactions.append((standing, {**takes, **needs}, gives, goal))
    # This raises TooMany if there are too many in-lines then.
    return Machine(ins, machine.outs, machine.standings, reactions)
