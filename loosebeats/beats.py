"""Beats of a pair, done one behind another.

A STEP of a pair is a tuple (number, takes, draws, puts, gives, next) of a reaction of one
of its machines. Takes and gives are tuples of pairs (place of the pair's in-line or
out-line, worth), draws and puts of pairs (place of the store, worth): what is taken from
stores, and what is given to them. SIDES are two lists, of the first and of the second
machine: for each standing the list of its steps, by rising numbers.
"""

from loosebeats.errors import InvalidRun, InvalidSizes
from loosebeats.kinds import is_below, is_integer, is_list, is_tuple
from loosebeats.steps import can_take, placed, queues_of, step_numbered

MOST_SIZE = 3


def split_stores(worths, stores, lines):
    """Two tuples of pairs: what is on stores, and what is on other lines."""
    on_stores = {line: worth for line, worth in worths.items() if line in stores}
    others = {line: worth for line, worth in worths.items() if line not in stores}
    return (placed(on_stores, stores), placed(others, lines))


def side_of(pair, machine):
    """For each standing of one of the machines the list of its steps."""
    steps = [[] for _ in range(machine.standings)]
    for number, (standing, takes, gives, goal) in enumerate(machine.reactions()):
        draws, taken = split_stores(takes, pair.stores, pair.ins)
        puts, given = split_stores(gives, pair.stores, pair.outs)
        steps[standing].append((number, taken, draws, puts, given, goal))
    return steps


def sides_of(pair):
    """The steps of the first and of the second machine."""
    return [side_of(pair, pair.first), side_of(pair, pair.second)]


def no_bounds(pair):
    """The sizes that bound no store."""
    return tuple([None for _ in pair.stores])


def is_size(value):
    """Tells whether a value is a size that is a number."""
    return is_integer(value) and 1 <= value <= MOST_SIZE


def are_bounds(pair, value):
    """Tells whether a value is sizes of the pair without None in them."""
    return is_tuple(value, len(pair.stores)) and all([is_size(size) for size in value])


def check_bounds(pair, sizes):
    """Raises InvalidSizes unless they are sizes of the pair without None in them."""
    if not are_bounds(pair, sizes):
        raise InvalidSizes(sizes)


def check_sizes(pair, sizes):
    """Raises InvalidSizes unless they are sizes of the pair."""
    if not is_tuple(sizes, len(pair.stores)) or not all([size is None or is_size(size) for size in sizes]):
        raise InvalidSizes(sizes)


def all_bounds(pair):
    """The sorted list of all sizes of the pair without None in them."""
    found = [()]
    for _ in pair.stores:
        found = [sizes + (size,) for sizes in found for size in range(1, MOST_SIZE + 1)]
    return found


def have_room(puts, held, sizes):
    """Tells whether the stores, in which so much stands, have room for the puts."""
    return all([sizes[at] is None or held[at] < sizes[at] for at, _ in puts])


class Walk:
    """A run of a pair that is being done: each beat changes it.

    Lists that grow, and spots on them, do for runs of any length.
    """

    def __init__(self, pair, streams, sizes):
        self._sides = sides_of(pair)
        self._sizes = sizes
        self._standings = [0, 0]
        self._queues = queues_of(pair, streams)
        self._spots = [0 for _ in self._queues]
        self._stored = [[] for _ in pair.stores]
        self._drawn = [0 for _ in pair.stores]
        self._flows = [[] for _ in pair.outs]

    def held(self):
        """How much stands in each store."""
        return [len(stored) - drawn for stored, drawn in zip(self._stored, self._drawn)]

    def has_takes(self, step):
        """Tells whether all that a step takes stands there, on in-lines and in stores."""
        return can_take(step[1], self._queues, self._spots) and can_take(step[2], self._stored, self._drawn)

    def can_do(self, step):
        """Tells whether a step of its machine's standing can be done."""
        return self.has_takes(step) and have_room(step[3], self.held(), self._sizes)

    def take_step(self, which, step):
        """Does a step of one of the machines."""
        _, takes, draws, puts, gives, goal = step
        for at, _ in takes:
            self._spots[at] = self._spots[at] + 1
        for at, _ in draws:
            self._drawn[at] = self._drawn[at] + 1
        for at, worth in puts:
            self._stored[at].append(worth)
        for at, worth in gives:
            self._flows[at].append(worth)
        self._standings[which] = goal

    def take_beat(self, beat):
        """Does a beat; tells whether the value is a beat that can be done."""
        if not is_tuple(beat, 2) or not is_below(beat[0], 2):
            return False
        which, number = beat
        step = step_numbered(self._sides[which][self._standings[which]], number)
        if step is None or not self.can_do(step):
            return False
        self.take_step(which, step)
        return True

    def take_run(self, run):
        """Does all beats of a run; raises InvalidRun if it is none."""
        if not is_list(run):
            raise InvalidRun(None)
        for position, beat in enumerate(run):
            if not self.take_beat(beat):
                raise InvalidRun(position)

    def next_step(self):
        """A tuple (0 or 1, step) of a step that can be done; None if none can."""
        for which, steps in enumerate(self._sides):
            for step in steps[self._standings[which]]:
                if self.can_do(step):
                    return (which, step)
        return None

    def take_all(self):
        """Does beats until none can be done."""
        told = self.next_step()
        while told is not None:
            which, step = told
            self.take_step(which, step)
            told = self.next_step()

    def lacks_room(self):
        """Tells whether a reaction of the first machine could be done if there were room."""
        return any([self.has_takes(step) and not self.can_do(step) for step in self._sides[0][self._standings[0]]])

    def pair_place(self):
        """The END of what was done."""
        one, other = self._standings
        contents = tuple([tuple(stored[drawn:]) for stored, drawn in zip(self._stored, self._drawn)])
        rests = tuple([tuple(queue[spot:]) for queue, spot in zip(self._queues, self._spots)])
        return (one, other, contents, rests, tuple([tuple(flow) for flow in self._flows]))
