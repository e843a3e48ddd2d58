"""Machines, wrong values and a kind of test case that several tests use."""

import inspect
import itertools
import unittest

from loosebeats.machines import Machine
from loosebeats.stores import Pair


class Case(unittest.TestCase):
    def listed(self, module, parameters):
        """Each function is defined in this file, with these names of its parameters."""
        for name, names in parameters.items():
            function = vars(module)[name]
            self.assertEqual(function.__module__, module.__name__)
            self.assertEqual(list(inspect.signature(function).parameters), names)

    def refused(self, error, attributes, call, *args, **named):
        """The call raises just this error, with these attributes, of the same kinds."""
        with self.assertRaises(error) as caught:
            call(*args, **named)
        self.assertIs(type(caught.exception), error)
        for name, value in attributes.items():
            told = getattr(caught.exception, name)
            self.assertEqual(type(told), type(value))
            if told is not value:
                self.assertEqual(told, value)


def race():
    return Machine(
        ["a", "b"],
        ["o"],
        2,
        [(0, {"a": 0}, {}, 1), (0, {"b": 0}, {"o": 0}, 0), (1, {"b": 0}, {"o": 1}, 1)],
    )


def free():
    return Machine(["a", "b"], ["o"], 1, [(0, {"a": 0}, {"o": 1}, 0), (0, {"b": 0}, {}, 0)])


def forty():
    """Forty reactions: four in-lines with each worth."""
    return [(0, {line: worth}, {}, 0) for line in "abcd" for worth in range(10)]


def chooser(gives):
    """One in-line, and a reaction on 0 for each of the gives."""
    outs = sorted({line for give in gives for line in give})
    return Machine(["a"], outs, 1, [(0, {"a": 0}, give, 0) for give in gives])


class Same:
    """Equal to whatever it is compared with."""

    def __eq__(self, other):
        return True

    def __hash__(self):
        return hash("a")


def odd_values():
    """Values of many kinds, none of them an INTEGER, a string, a list, a tuple or a dict."""
    return [None, True, False, b"a", {0}, frozenset(), range(2), Same(), object(), len, Machine, iter([])]


def wrong_streams():
    """Values that are no streams of a machine with the in-lines a and b and the out-line o."""
    yield from [*odd_values(), 1, "ab", [], (), [("a", [0])], ["a"]]
    for line in ["o", "c", "", 0, True, None, ("a",), b"a", Same()]:
        yield {line: [0]}
        yield {"b": [0], line: []}
    for stream in [*odd_values(), 0, "0", {}, {"a": 0}]:
        yield {"a": stream}
        yield {"b": [0], "a": stream}
    for worth in [*odd_values(), -1, 10, "0", [0], (0,), 10**29]:
        yield {"a": [0, worth]}
        yield {"a": (worth,), "b": [0]}


def dict_order(dictionary):
    return list(dictionary.items())


def brute_full(machine, streams):
    """All full runs with their ENDs, sorted, by doing everything that can be done."""
    reactions = machine.reactions()
    found = []

    def go(standing, rests, flows, run):
        stuck = True
        for number, (here, takes, gives, goal) in enumerate(reactions):
            if here != standing or any(rests[line][:1] != [worth] for line, worth in takes.items()):
                continue
            stuck = False
            left = {line: rests[line][1:] if line in takes else rests[line] for line in rests}
            given = {line: flows[line] + ([gives[line]] if line in gives else []) for line in flows}
            go(goal, left, given, run + [number])
        if stuck:
            rest = tuple(tuple(rests[line]) for line in machine.ins)
            flow = tuple(tuple(flows[line]) for line in machine.outs)
            found.append((run, (standing, rest, flow)))

    go(0, {line: list(streams.get(line, [])) for line in machine.ins}, {line: [] for line in machine.outs}, [])
    return sorted(found)


def made_up(rng):
    """A small machine and streams, by a random source with a told seed."""
    ins = ["a", "b", "c"][: rng.randint(1, 3)]
    outs = ["o", "p"][: rng.randint(0, 2)]
    standings = rng.randint(1, 3)
    reactions = []
    for _ in range(rng.randint(0, 9)):
        takes = {line: rng.randint(0, 1) for line in rng.sample(ins, rng.randint(1, len(ins)))}
        gives = {line: rng.randint(0, 1) for line in outs if rng.random() < 0.5}
        reaction = (rng.randrange(standings), takes, gives, rng.randrange(standings))
        if reaction not in reactions:
            reactions.append(reaction)
    streams = {line: [int(rng.random() < 0.3) for _ in range(rng.randint(0, 3))] for line in ins if rng.random() < 0.9}
    return Machine(ins, outs, standings, reactions), streams


def all_runs_up_to(machine, length):
    """All lists of numbers of reactions up to a length."""
    for many in range(length + 1):
        yield from (list(run) for run in itertools.product(range(len(machine)), repeat=many))


def small_streams(machine, most, worths=(0, 1)):
    """All streams of the worths told, with at most so many worths together."""
    ins = machine.ins

    def go(place, left):
        if place == len(ins):
            yield {}
            return
        for many in range(left + 1):
            for stream in itertools.product(worths, repeat=many):
                for rest in go(place + 1, left - many):
                    yield {**({ins[place]: list(stream)} if many else {}), **rest}

    return go(0, most)


def forward(machine, standing, rests, run):
    """Where a run of the rests, dicts of lists, leads from a standing: (standing, rests, flows); None if it is none."""
    reactions = machine.reactions()
    rests = {line: list(rests.get(line, [])) for line in machine.ins}
    flows = {line: [] for line in machine.outs}
    for number in run:
        if type(number) is not int or not 0 <= number < len(reactions):
            return None
        here, takes, gives, goal = reactions[number]
        if here != standing or any(rests[line][:1] != [worth] for line, worth in takes.items()):
            return None
        for line in takes:
            rests[line].pop(0)
        for line, worth in gives.items():
            flows[line].append(worth)
        standing = goal
    return standing, tuple(map(tuple, rests.values())), tuple(map(tuple, flows.values()))


def all_ends(machine, streams, standing=0):
    """The ENDs of all full runs from a standing on, by doing everything; each place is looked at once."""
    reactions = machine.reactions()
    ins, outs = machine.ins, machine.outs
    begin = (standing, tuple(tuple(streams.get(line, ())) for line in ins), tuple(() for _ in outs))
    seen, waiting, found = {begin}, [begin], set()
    while waiting:
        here, rests, flows = waiting.pop()
        stuck = True
        for at, takes, gives, goal in reactions:
            left = dict(zip(ins, rests))
            if at != here or any(left[line][:1] != (worth,) for line, worth in takes.items()):
                continue
            stuck = False
            later = (
                goal,
                tuple(rest[1:] if line in takes else rest for line, rest in left.items()),
                tuple(flow + ((gives[line],) if line in gives else ()) for line, flow in zip(outs, flows)),
            )
            if later not in seen:
                seen.add(later)
                waiting.append(later)
        if stuck:
            found.add((here, rests, flows))
    return found


def loose(rng):
    """A small machine the reactions of which seldom have equal takes."""
    ins = ["a", "b", "c"][: rng.randint(1, 3)]
    outs = ["o", "p"][: rng.randint(0, 2)]
    standings = rng.randint(1, 3)
    reactions = []
    for _ in range(rng.randint(1, 7)):
        takes = {line: int(rng.random() < 0.2) for line in rng.sample(ins, rng.choice([1, 1, 1, len(ins)]))}
        gives = {line: int(rng.random() < 0.2) for line in outs if rng.random() < 0.3}
        standing = rng.randrange(standings)
        if rng.random() < 0.1 or all(other[:2] != (standing, takes) for other in reactions):
            reaction = (standing, takes, gives, rng.randrange(standings))
            if reaction not in reactions:
                reactions.append(reaction)
    return Machine(ins, outs, standings, reactions)


def strict(rng, standings=None):
    """A machine of the lines a, b and o that asks for one line, or both, at each standing: it is alike."""
    standings = standings or rng.randint(1, 4)
    reactions = []
    for standing in range(standings):
        lines = rng.choice([["a"], ["b"], ["a", "b"]])
        for worths in itertools.product((0, 1), repeat=len(lines)):
            if rng.random() < 0.7:
                gives = {"o": rng.randint(0, 1)} if rng.random() < 0.5 else {}
                reactions.append((standing, dict(zip(lines, worths)), gives, rng.randrange(standings)))
    return Machine(["a", "b"], ["o"], standings, reactions)


def doubled(rng, machine):
    """The machine with each standing twice; each reaction leads to any one of both."""
    many = machine.standings
    rows = [
        (standing + copy * many, takes, gives, goal + rng.randint(0, 1) * many)
        for copy in range(2)
        for standing, takes, gives, goal in machine.reactions()
    ]
    return Machine(machine.ins, machine.outs, 2 * many, rows)


def begun_at(machine, standing):
    """The machine with a standing in the place of 0."""
    swap = {0: standing, standing: 0}
    rows = [(swap.get(at, at), takes, gives, swap.get(goal, goal)) for at, takes, gives, goal in machine.reactions()]
    return Machine(machine.ins, machine.outs, machine.standings, rows)


def spoiled(value):
    """Values that are unlike the value in one place: in kind, in number, or in what is in it."""
    if isinstance(value, dict):
        yield from [list(value.items()), list(value), None]
        for key, inner in value.items():
            yield {other: value[other] for other in value if other != key}
            for wrong in spoiled(inner):
                yield {**value, key: wrong}
            for wrong in spoiled(key):
                if wrong.__hash__ is not None and not isinstance(wrong, (list, dict)):
                    try:
                        yield {wrong if other == key else other: value[other] for other in value}
                    except TypeError:
                        pass
        yield {**value, "zz": []}
        yield {**value, (0, 0): ([], [])}
    elif isinstance(value, (list, tuple)):
        kind = type(value)
        yield from [None, {}, list(value) if kind is tuple else tuple(value), value + kind([0])]
        for at, inner in enumerate(value):
            yield value[:at] + value[at + 1 :]
            yield value[:at] + kind([inner]) + value[at:]
            for wrong in spoiled(inner):
                yield value[:at] + kind([wrong]) + value[at + 1 :]
    elif isinstance(value, int):
        yield from [value + 1, value - 1, str(value), None, [value], (value,), Same(), 10**29]
        if value in (0, 1):
            yield bool(value)
    else:
        yield from [None, 0, "", value + "a" if isinstance(value, str) else "a", Same()]


def are_strict(value):
    """Whether a value has nothing but INTEGERS, strings, lists, tuples and dicts in it."""
    if isinstance(value, dict):
        return all(are_strict(key) and are_strict(inner) for key, inner in value.items())
    if isinstance(value, (list, tuple)):
        return all(are_strict(inner) for inner in value)
    return type(value) in (int, str)


def pair_lines(first, second):
    """Stores, in-lines and out-lines of a pair, by the words of [71]."""
    stores = [line for line in first.outs if line in second.ins]
    ins = first.ins + [line for line in second.ins if line not in stores]
    outs = [line for line in first.outs if line not in stores] + second.outs
    return stores, ins, outs


class Table:
    """A pair at a place, on which beats are done by the words of [71]; sizes are a tuple."""

    def __init__(self, pair, streams, sizes):
        self.machines = (pair.first, pair.second)
        self.names, self.ins, self.outs = pair_lines(pair.first, pair.second)
        self.sizes = dict(zip(self.names, sizes))
        self.standings = [0, 0]
        self.stores = {line: [] for line in self.names}
        self.rests = {line: list(streams.get(line, [])) for line in self.ins}
        self.flows = {line: [] for line in self.outs}

    def copied(self):
        other = object.__new__(Table)
        other.machines, other.names, other.ins, other.outs = self.machines, self.names, self.ins, self.outs
        other.sizes, other.standings = self.sizes, list(self.standings)
        other.stores, other.rests, other.flows = (
            {line: list(inner) for line, inner in part.items()} for part in (self.stores, self.rests, self.flows)
        )
        return other

    def stands_there(self, which, number):
        """Whether it is a reaction of its machine's standing and all that it takes stands there."""
        standing, takes, _, _ = self.machines[which][number]
        both = {**self.rests, **self.stores}
        return standing == self.standings[which] and all(both[line][:1] == [worth] for line, worth in takes.items())

    def has_room(self, which, number):
        gives = self.machines[which][number][2]
        return which == 1 or all(
            self.sizes[line] is None or len(self.stores[line]) < self.sizes[line] for line in gives if line in self.stores
        )

    def beats(self):
        """All beats that can be done."""
        both = [(which, number) for which in (0, 1) for number in range(len(self.machines[which]))]
        return [beat for beat in both if self.stands_there(*beat) and self.has_room(*beat)]

    def do(self, beat):
        which, number = beat
        _, takes, gives, goal = self.machines[which][number]
        for line in takes:
            (self.stores if line in self.stores else self.rests)[line].pop(0)
        for line, worth in gives.items():
            (self.stores if line in self.stores else self.flows)[line].append(worth)
        self.standings[which] = goal

    def lacks_room(self):
        """Whether a reaction could be done without bounds that cannot be done with them."""
        numbers = range(len(self.machines[0]))
        return any(self.stands_there(0, number) and not self.has_room(0, number) for number in numbers)

    def end(self):
        parts = (self.stores, self.rests, self.flows)
        return (*self.standings, *(tuple(tuple(inner) for inner in part.values()) for part in parts))


def pair_tables(pair, streams, sizes):
    """All places at which full runs of a pair end, by doing everything; each place is looked at once."""
    begin = Table(pair, streams, sizes)
    seen, waiting, found = {begin.end()}, [begin], []
    while waiting:
        table = waiting.pop()
        beats = table.beats()
        for beat in beats:
            later = table.copied()
            later.do(beat)
            if later.end() not in seen:
                seen.add(later.end())
                waiting.append(later)
        if not beats:
            found.append(table)
    return found


def pair_walk(pair, streams, sizes, run):
    """Where a run of a pair leads; None if it is none."""
    table = Table(pair, streams, sizes)
    for beat in run:
        if type(beat) is not tuple or [type(part) for part in beat] != [int, int] or beat not in table.beats():
            return None
        table.do(beat)
    return table


def some_pair(rng, stores=None, standings=2, reactions=5):
    """A small pair, by a random source: one or two stores, with other lines beside them or not."""
    names = ["o", "p"][: stores or rng.randint(1, 2)]
    return Pair(
        part(rng, ["a", "b"][: rng.randint(1, 2)], names + ["x"][: rng.randint(0, 1)], standings, reactions, 0.7),
        part(rng, names + ["c"][: rng.randint(0, 1)], ["y"][: rng.randint(0, 1)], standings, reactions, 0.4),
    )


def part(rng, ins, outs, standings, reactions, gives):
    many = rng.randint(1, standings)
    rows = []
    for _ in range(rng.randint(1, reactions)):
        takes = {line: int(rng.random() < 0.2) for line in rng.sample(ins, rng.choice([1, 1, 1, len(ins)]))}
        given = {line: int(rng.random() < 0.2) for line in outs if rng.random() < gives}
        row = (rng.randrange(many), takes, given, rng.randrange(many))
        if row not in rows:
            rows.append(row)
    rng.shuffle(ins)
    return Machine(ins, outs, many, rows)
