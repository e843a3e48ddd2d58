"""Lines that can always come again, what strands them, and rounds."""

import copy
import itertools
import random
import unittest

from loosebeats import rounds
from loosebeats.errors import InvalidCounts, InvalidLine, InvalidStanding, NotReached, TooMany
from loosebeats.machines import Machine
from loosebeats.rounds import is_live, never_done, ranks, resting, round_with, stranding, strands
from loosebeats.runs import taken
from samples import (
    Case,
    Same,
    all_runs_up_to,
    are_strict,
    begun_at,
    forty,
    free,
    loose,
    made_up,
    odd_values,
    race,
    spoiled,
)

PARAMETERS = {
    "is_live": ["machine", "line"],
    "ranks": ["machine", "line"],
    "stranding": ["machine", "line"],
    "strands": ["machine", "line", "value"],
    "never_done": ["machine"],
    "resting": ["machine"],
    "round_with": ["machine", "standing", "counts"],
}


def lines_of(machine):
    return machine.ins + machine.outs


def has(machine, number, line):
    _, takes, gives, _ = machine[number]
    return line in takes or line in gives


def runs_from(machine, standing, most):
    """All runs from a standing on, the shorter ones ahead, each length sorted, with where they lead."""
    level = [([], standing)]
    for _ in range(most + 1):
        yield from level
        level = [(run + [n], machine[n][3]) for run, here in level for n in machine.at(here)]


def rank_by_hand(machine, standing, line):
    """How many reactions are at least done until one has the line, by doing all short runs; None if none has it."""
    for run, _ in runs_from(machine, standing, machine.standings):
        if run and has(machine, run[-1], line):
            return len(run)
    return None


def is_stranding_by_hand(machine, line, value):
    if not isinstance(value, (list, tuple)) or not are_strict(value):
        return False
    standing = 0
    for number in value:
        if not isinstance(number, int) or not 0 <= number < len(machine) or machine[number][0] != standing:
            return False
        standing = machine[number][3]
    return rank_by_hand(machine, standing, line) is None


def round_by_hand(machine, standing, counts, most):
    """The first one of the shortest rounds of at most so many reactions, by doing all runs."""
    whole = {line: count for line, count in counts.items() if count}
    for run, goal in runs_from(machine, standing, most):
        there = begun_at(machine, standing)
        if goal == standing and {line: len(worths) for line, worths in taken(there, run).items()} == whole:
            return run
    return None


class Interface(Case):
    def test_what_is_listed_is_defined_there_with_its_names(self):
        self.listed(rounds, PARAMETERS)

    def test_examples(self):
        told = [is_live(race(), "a"), stranding(race(), "a"), ranks(race(), "b"), round_with(free(), 0, {"a": 1, "b": 2})]
        self.assertEqual(told, [False, [0], {0: 1, 1: 1}, [0, 1, 1]])

    def test_arguments_by_name(self):
        machine = race()
        self.assertIs(is_live(line="b", machine=machine), True)
        self.assertEqual([ranks(line="a", machine=machine), stranding(line="b", machine=machine)], [None, None])
        self.assertIs(strands(value=(0,), line="a", machine=machine), True)
        self.assertEqual([never_done(machine=machine), resting(machine=machine)], [[], []])
        self.assertEqual(round_with(counts={"b": 1}, standing=0, machine=machine), [1])


class Live(Case):
    def test_against_doing_all_runs(self):
        rng = random.Random(82)
        told_of, longest = {True: 0, False: 0}, 0
        for place in range(120):
            machine = made_up(rng)[0] if place % 2 else loose(rng)
            machine = Machine(machine.ins, machine.outs, machine.standings, machine.reactions()[:6])
            for line in lines_of(machine):
                expected = {standing: rank_by_hand(machine, standing, line) for standing in machine.reached()}
                live = None not in expected.values()
                told_of[live] += 1
                self.assertIs(is_live(machine, line), live)
                self.assertEqual(ranks(machine, line), expected if live else None)
                first = stranding(machine, line)
                if live:
                    self.assertIsNone(first)
                    longest = max(longest, *expected.values())
                    continue
                runs = (run for run, goal in runs_from(machine, 0, machine.standings) if expected[goal] is None)
                self.assertEqual(first, next(runs))
                self.assertIs(strands(machine, line, first), True)
        self.assertGreater(min(told_of.values()), 20)
        self.assertGreater(longest, 1)

    def test_keys_of_ranks_are_sorted(self):
        rows = [(0, {"a": 0}, {}, 3), (3, {"a": 0}, {}, 2), (2, {"a": 0}, {}, 1), (1, {"b": 0}, {"o": 1}, 0)]
        machine = Machine(["a", "b"], ["o"], 4, rows)
        self.assertEqual(list(ranks(machine, "o").items()), [(0, 4), (1, 1), (2, 2), (3, 3)])
        self.assertEqual(ranks(machine, "a"), {0: 1, 1: 2, 2: 1, 3: 1})

    def test_lines_that_no_reaction_has(self):
        machine = Machine(["a", "b"], ["o", "p"], 2, [(0, {"a": 0}, {"o": 1}, 1), (1, {"a": 0}, {}, 0), (1, {"a": 1}, {}, 1)])
        for line in ("b", "p"):
            self.assertEqual([is_live(machine, line), ranks(machine, line), stranding(machine, line)], [False, None, []])
            self.assertIs(strands(machine, line, []), True)
        empty = Machine(["a"], ["o"], 1, [])
        self.assertEqual([is_live(empty, "a"), ranks(empty, "a"), stranding(empty, "o")], [False, None, []])

    def test_standings_that_are_not_reached_do_not_matter(self):
        rows = [(0, {"a": 0}, {}, 0), (1, {"b": 0}, {}, 0), (2, {"b": 0}, {}, 2)]
        machine = Machine(["a", "b"], [], 3, rows)
        self.assertEqual([is_live(machine, "a"), ranks(machine, "a"), never_done(machine)], [True, {0: 1}, [1, 2]])
        self.assertEqual([is_live(machine, "b"), stranding(machine, "b")], [False, []])

    def test_several_shortest_runs_that_strand_the_first_one(self):
        rows = [(0, {"b": 0}, {}, 1), (0, {"b": 1}, {}, 2), (2, {"b": 0}, {}, 3), (1, {"b": 1}, {}, 4)]
        rows += [(0, {"a": 0}, {}, 0), (1, {"a": 0}, {}, 0), (2, {"a": 0}, {}, 0)]
        machine = Machine(["a", "b"], [], 5, rows)
        self.assertEqual(stranding(machine, "a"), [0, 3])
        self.assertEqual(stranding(machine - 3, "a"), [1, 2])
        self.assertEqual(stranding(machine + (0, {"b": 2}, {}, 3), "a"), [7])
        for value in ([0, 3], [1, 2], (4, 4, 0, 3), [0, 5, 1, 2]):
            self.assertIs(strands(machine, "a", value), True)

    def test_twelve_standings(self):
        rows = [(k, {"a": 0}, {}, k + 1) for k in range(11)] + [(11, {"b": 0}, {}, 0)]
        machine = Machine(["a", "b"], [], 12, rows)
        self.assertEqual(ranks(machine, "b"), {k: 12 - k for k in range(12)})
        self.assertEqual(stranding(machine - 11, "b"), [])
        self.assertEqual(stranding(machine - 11, "a"), list(range(11)))

    def test_wrong_lines(self):
        for call, rest in [(is_live, []), (ranks, []), (stranding, []), (strands, [[0]])]:
            for wrong in [*odd_values(), "c", "", "A", 0, ["a"], ("a",), {"a": 0}, "ab"]:
                self.refused(InvalidLine, {"value": wrong}, call, race(), wrong, *rest)


class Strands(Case):
    def test_all_short_runs(self):
        rng = random.Random(820)
        for _ in range(40):
            machine = loose(rng)
            for run in itertools.islice(all_runs_up_to(machine, 3), 300):
                for line in lines_of(machine):
                    self.assertIs(strands(machine, line, run), is_stranding_by_hand(machine, line, run))

    def test_runs_that_are_spoiled(self):
        rng = random.Random(821)
        wrong = right = 0
        for _ in range(120):
            machine = loose(rng)
            for line in lines_of(machine):
                told = stranding(machine, line)
                for value in spoiled(told) if told else []:
                    expected = is_stranding_by_hand(machine, line, value)
                    self.assertIs(strands(machine, line, value), expected)
                    wrong, right = wrong + (not expected), right + expected
        self.assertGreater(wrong, 300)
        self.assertGreater(right, 10)

    def test_no_runs(self):
        machine = race()
        for value in ([0], (0,), [0, 2], [1, 1, 0], [1] * 1000 + [0] + [2] * 900):
            self.assertIs(strands(machine, "a", value), True)
        wrong = [*odd_values(), 0, "", "0", {}, {0: 0}, [], (), [1], [False], [0, 0], [0, 1], [3], [-3], [[0]], [(0,)]]
        wrong += [[value] for value in odd_values()] + [[0, value] for value in odd_values()]
        for value in wrong:
            self.assertIs(strands(machine, "a", value), False, value)
        for value in ([], [0], [1]):
            self.assertIs(strands(machine, "b", value), False)


class Standings(Case):
    def test_never_done(self):
        rows = [(1, {"a": 0}, {}, 1), (0, {"a": 0}, {}, 2), (2, {"a": 0}, {}, 0), (3, {"a": 0}, {}, 1), (1, {"a": 1}, {}, 0)]
        machine = Machine(["a"], [], 4, rows)
        self.assertEqual(never_done(machine), [0, 3, 4])
        self.assertEqual(never_done(machine + (2, {"a": 1}, {}, 3)), [])
        self.assertEqual([never_done(race()), never_done(Machine(["a"], [], 3, []))], [[], []])

    def test_resting(self):
        self.assertEqual(resting(Machine(["a"], [], 3, [])), [0])
        rows = [(0, {"a": 0}, {}, 3), (0, {"a": 1}, {}, 1), (2, {"a": 0}, {}, 4)]
        machine = Machine(["a"], [], 5, rows)
        self.assertEqual(resting(machine), [1, 3])
        self.assertEqual([resting(race()), resting(machine + (1, {"a": 0}, {}, 2))], [[], [3, 4]])

    def test_by_hand(self):
        rng = random.Random(822)
        for _ in range(100):
            machine, _ = made_up(rng)
            come_to = {goal for _, goal in runs_from(Machine(machine.ins, machine.outs, machine.standings, machine.reactions()[:5]), 0, 3)}
            small = Machine(machine.ins, machine.outs, machine.standings, machine.reactions()[:5])
            self.assertEqual(never_done(small), [n for n in range(len(small)) if small[n][0] not in come_to])
            self.assertEqual(resting(small), sorted(k for k in come_to if not small.at(k)))


class Rounds(Case):
    def test_against_doing_all_runs(self):
        rng = random.Random(83)
        found = missed = 0
        for place in range(150):
            machine = made_up(rng)[0] if place % 2 else loose(rng)
            machine = Machine(machine.ins, machine.outs, machine.standings, machine.reactions()[:5])
            for standing in machine.reached():
                counts = {line: rng.randint(0, 2) for line in machine.ins if rng.random() < 0.8}
                told = round_with(machine, standing, counts)
                # A round has at most as many reactions as it takes worths.
                expected = round_by_hand(machine, standing, counts, sum(counts.values()))
                self.assertEqual(told, expected, (machine, standing, counts))
                found, missed = found + bool(told), missed + (told is None)
        self.assertGreater(found, 40)
        self.assertGreater(missed, 40)

    def test_no_counts(self):
        for machine in (race(), free(), Machine(["a"], [], 1, [])):
            for counts in ({}, {"a": 0}, {line: 0 for line in machine.ins}):
                for standing in machine.reached():
                    self.assertEqual(round_with(machine, standing, counts), [])

    def test_ordinary(self):
        rows = [(0, {"a": 0, "b": 0}, {}, 1), (0, {"a": 0}, {}, 1), (1, {"b": 1}, {}, 0), (0, {"a": 5}, {}, 1)]
        machine = Machine(["a", "b"], [], 2, rows)
        self.assertEqual(round_with(machine, 0, {"b": 1, "a": 1}), [1, 2])
        self.assertEqual(round_with(machine, 1, {"a": 1, "b": 1}), [2, 1])
        self.assertEqual(round_with(machine, 0, {"a": 2, "b": 3}), [0, 2, 1, 2])
        self.assertIsNone(round_with(machine, 0, {"a": 1}))
        self.assertIsNone(round_with(machine, 0, {"a": 1, "b": 3}))

    def test_the_shortest_goes_ahead_of_the_first(self):
        rows = [(0, {"a": 0}, {}, 0), (0, {"b": 0}, {}, 0), (0, {"a": 1, "b": 1}, {}, 0), (0, {"b": 2, "a": 2}, {}, 0)]
        machine = Machine(["a", "b"], [], 1, rows)
        self.assertEqual(round_with(machine, 0, {"a": 2, "b": 1}), [0, 2])
        self.assertEqual(round_with(machine - 2, 0, {"a": 1, "b": 2}), [1, 2])

    def test_twelve_worths_and_thirteen(self):
        machine = Machine(list("abcd"), [], 1, forty())
        told = round_with(machine, 0, {line: 3 for line in "abcd"})
        self.assertEqual(told, [0] * 3 + [10] * 3 + [20] * 3 + [30] * 3)
        self.assertEqual(round_with(machine, 0, {"d": 12}), [30] * 12)
        refused = {"what": "counts", "limit": 12}
        self.refused(TooMany, refused, round_with, machine, 0, {"d": 13})
        self.refused(TooMany, refused, round_with, machine, 0, {"a": 6, "d": 7})
        self.refused(TooMany, refused, round_with, machine, 0, {"a": 10**29})
        self.refused(InvalidCounts, {"value": {"a": 13, "b": -1}}, round_with, machine, 0, {"a": 13, "b": -1})

    def test_long_rounds(self):
        rows = [(k, {"a": 0}, {}, k + 1) for k in range(11)] + [(11, {"b": 0}, {}, 0)]
        machine = Machine(["a", "b"], [], 12, rows)
        self.assertEqual(round_with(machine, 0, {"a": 11, "b": 1}), list(range(12)))
        self.assertEqual(round_with(machine, 5, {"a": 11, "b": 1}), [*range(5, 12), *range(5)])
        self.assertIsNone(round_with(machine, 5, {"a": 10, "b": 1}))

    def test_refused(self):
        machine = Machine(["a", "b"], ["o"], 3, [(0, {"a": 0}, {"o": 1}, 1), (1, {"b": 0}, {}, 0), (2, {"a": 0}, {}, 2)])
        wrong = [*odd_values(), 0, "a", [], (), [("a", 1)], {"o": 1}, {"c": 0}, {"": 0}, {0: 1}, {None: 0}, {Same(): 1}]
        wrong += [{"a": value} for value in [*odd_values(), -1, "1", [1], (1,), {}]]
        wrong += [{"b": 1, "a": value} for value in (True, -1, None)] + [{"a": 1, key: 1} for key in ("o", ("b",), True)]
        for value in wrong:
            for standing in (0, 1, 2):
                self.refused(InvalidCounts, {"value": value}, round_with, machine, standing, value)
        for value in [*odd_values(), -1, 3, "0", [0], (0,), {}, 10**29]:
            for counts in ({"a": 1}, {"a": 13}, "wrong, too"):
                self.refused(InvalidStanding, {"value": value}, round_with, machine, value, counts)
        self.refused(TooMany, {"what": "counts", "limit": 12}, round_with, machine, 2, {"a": 13})
        for counts in ({}, {"a": 1}, {"a": 12}):
            self.refused(NotReached, {"value": 2}, round_with, machine, 2, counts)


class Kept(Case):
    def test_what_is_passed_stays(self):
        counts, run = {"b": 1, "a": 1}, [0]
        kept = copy.deepcopy([counts, run])
        round_with(free(), 0, counts)
        strands(race(), "a", run)
        self.assertEqual([counts, run, list(counts)], [*kept, ["b", "a"]])

    def test_what_is_told_is_new(self):
        machine = race()
        ranks(machine, "b").clear()
        for told in (stranding(machine, "a"), never_done(machine), resting(machine), round_with(machine, 0, {"b": 1})):
            self.assertIs(type(told), list)
            told.append(5)
        told = [ranks(machine, "b"), stranding(machine, "a"), never_done(machine), resting(machine)]
        self.assertEqual(told, [{0: 1, 1: 1}, [0], [], []])
        self.assertEqual([round_with(machine, 0, {"b": 1}), machine], [[1], race()])


if __name__ == "__main__":
    unittest.main()
