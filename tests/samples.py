"""Machines, wrong values and a kind of test case that several tests use."""

import itertools
import unittest

from loosebeats.machines import Machine


class Case(unittest.TestCase):
    def refused(self, error, attributes, call, *args, **named):
        """The call raises just this error, with these attributes, of the same kinds."""
        with self.assertRaises(error) as caught:
            call(*args, **named)
        self.assertIs(type(caught.exception), error)
        for name, value in attributes.items():
            told = getattr(caught.exception, name)
            self.assertEqual(type(told), type(value))
            if told is not value:
                self.assertEqual(told, value)


def race():
    return Machine(
        ["a", "b"],
        ["o"],
        2,
        [(0, {"a": 0}, {}, 1), (0, {"b": 0}, {"o": 0}, 0), (1, {"b": 0}, {"o": 1}, 1)],
    )


def free():
    return Machine(["a", "b"], ["o"], 1, [(0, {"a": 0}, {"o": 1}, 0), (0, {"b": 0}, {}, 0)])


def forty():
    """Forty reactions: four in-lines with each worth."""
    return [(0, {line: worth}, {}, 0) for line in "abcd" for worth in range(10)]


def chooser(gives):
    """One in-line, and a reaction on 0 for each of the gives."""
    outs = sorted({line for give in gives for line in give})
    return Machine(["a"], outs, 1, [(0, {"a": 0}, give, 0) for give in gives])


class Same:
    """Equal to whatever it is compared with."""

    def __eq__(self, other):
        return True

    def __hash__(self):
        return hash("a")


def odd_values():
    """Values of many kinds, none of them an INTEGER, a string, a list, a tuple or a dict."""
    return [None, True, False, b"a", {0}, frozenset(), range(2), Same(), object(), len, Machine, iter([])]


def dict_order(dictionary):
    return list(dictionary.items())


def brute_full(machine, streams):
    """All full runs with their ENDs, sorted, by doing everything that can be done."""
    reactions = machine.reactions()
    found = []

    def go(standing, rests, flows, run):
        stuck = True
        for number, (here, takes, gives, goal) in enumerate(reactions):
            if here != standing or any(rests[line][:1] != [worth] for line, worth in takes.items()):
                continue
            stuck = False
            left = {line: rests[line][1:] if line in takes else rests[line] for line in rests}
            given = {line: flows[line] + ([gives[line]] if line in gives else []) for line in flows}
            go(goal, left, given, run + [number])
        if stuck:
            rest = tuple(tuple(rests[line]) for line in machine.ins)
            flow = tuple(tuple(flows[line]) for line in machine.outs)
            found.append((run, (standing, rest, flow)))

    go(0, {line: list(streams.get(line, [])) for line in machine.ins}, {line: [] for line in machine.outs}, [])
    return sorted(found)


def made_up(rng):
    """A small machine and streams, by a random source with a told seed."""
    ins = ["a", "b", "c"][: rng.randint(1, 3)]
    outs = ["o", "p"][: rng.randint(0, 2)]
    standings = rng.randint(1, 3)
    reactions = []
    for _ in range(rng.randint(0, 9)):
        takes = {line: rng.randint(0, 1) for line in rng.sample(ins, rng.randint(1, len(ins)))}
        gives = {line: rng.randint(0, 1) for line in outs if rng.random() < 0.5}
        reaction = (rng.randrange(standings), takes, gives, rng.randrange(standings))
        if reaction not in reactions:
            reactions.append(reaction)
    streams = {line: [int(rng.random() < 0.3) for _ in range(rng.randint(0, 3))] for line in ins if rng.random() < 0.9}
    return Machine(ins, outs, standings, reactions), streams


def all_runs_up_to(machine, length):
    """All lists of numbers of reactions up to a length."""
    for many in range(length + 1):
        yield from (list(run) for run in itertools.product(range(len(machine)), repeat=many))
