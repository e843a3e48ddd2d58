"""What mends a machine: notices, reactions taken away; flows told back."""

import copy
import itertools
import random
import time
import unittest

from loosebeats import mending
from loosebeats.alike import is_alike, is_quarrel, quarrel
from loosebeats.errors import InvalidFlows, InvalidLines, InvalidNumber, Noticed, TooMany
from loosebeats.machines import Machine
from loosebeats.mending import away, do_notices_help, least_away, least_notices, noticed, told_back
from loosebeats.runs import taken
from loosebeats.smooth import is_smooth
from samples import (
    Case,
    Same,
    all_ends,
    chooser,
    forty,
    free,
    loose,
    made_up,
    odd_values,
    race,
    small_streams,
    strict,
    wrong_streams,
)

PARAMETERS = {
    "noticed": ["machine", "lines"],
    "do_notices_help": ["machine", "lines"],
    "least_notices": ["machine"],
    "away": ["machine", "numbers"],
    "least_away": ["machine"],
    "told_back": ["machine", "flows"],
}


def subsets(parts, most=None):
    """All choices of the parts, those of fewer parts ahead."""
    for many in range(len(parts) + 1 if most is None else most + 1):
        yield from (list(chosen) for chosen in itertools.combinations(parts, many))


def noticed_by_hand(machine, lines):
    rows = []
    for standing, takes, gives, goal in machine.reactions():
        rows.append((standing, {line: takes.get(line, 9) for line in machine.ins if line in takes or line in lines}, gives, goal))
    return Machine(machine.ins, machine.outs, machine.standings, rows)


def have_equal_takes(machine):
    """Whether two unlike reactions of a reached standing have equal takes."""
    rows = [row for row in machine.reactions() if row[0] in machine.reached()]
    return any(one[:2] == other[:2] for one, other in itertools.combinations(rows, 2))


def end_alike(machine, most, worths):
    """Whether all full runs of all small streams end alike, by doing everything."""
    return all(len(all_ends(machine, streams)) == 1 for streams in small_streams(machine, most, worths))


def told_back_by_hand(machine, flows, most):
    """The first one of the shortest runs of at most so many reactions with the flows, by doing all of them."""
    whole = {line: list(flows.get(line, [])) for line in machine.outs}
    level = [([], 0, {line: [] for line in machine.outs})]
    for _ in range(most + 1):
        for run, _, given in level:
            if given == whole:
                return run
        more = []
        for run, standing, given in level:
            for number, (here, _, gives, goal) in enumerate(machine.reactions()):
                if here == standing:
                    later = {line: given[line] + ([gives[line]] if line in gives else []) for line in given}
                    if all(whole[line][: len(later[line])] == later[line] for line in later):
                        more.append((run + [number], goal, later))
        level = more
    return None


class Interface(Case):
    def test_what_is_listed_is_defined_there_with_its_names(self):
        self.listed(mending, PARAMETERS)

    def test_examples(self):
        told = [least_notices(race()), noticed(race(), ["a"])[1], least_away(race()), told_back(race(), {"o": [0, 1]})]
        self.assertEqual(told, [[["a"], ["b"]], (0, {"a": 9, "b": 0}, {"o": 0}, 0), [[0], [1]], [1, 0, 2]])

    def test_arguments_by_name(self):
        self.assertEqual(noticed(lines=("a",), machine=race()), noticed_by_hand(race(), ["a"]))
        self.assertIs(do_notices_help(lines=["b"], machine=race()), True)
        self.assertEqual([least_notices(machine=free()), least_away(machine=free())], [[[]], [[]]])
        self.assertEqual(away(numbers=(0,), machine=race()), race() - 0)
        self.assertEqual(told_back(flows={"o": (0,)}, machine=race()), [1])


class Notices(Case):
    def test_noticed_on_no_line_on_some_and_on_all(self):
        self.assertEqual(noticed(race(), []), race())
        self.assertEqual(noticed(race(), ()), race())
        told = noticed(race(), ["a", "b"]).reactions()
        self.assertEqual(
            told,
            [(0, {"a": 0, "b": 9}, {}, 1), (0, {"a": 9, "b": 0}, {"o": 0}, 0), (1, {"a": 9, "b": 0}, {"o": 1}, 1)],
        )
        self.assertEqual([list(takes) for _, takes, _, _ in told], [["a", "b"]] * 3)
        self.assertEqual(noticed(race(), ["b", "a"]), noticed(race(), ["a", "b"]))

    def test_a_reaction_that_takes_from_the_line_already_is_as_it_was(self):
        machine = Machine(["a", "b"], ["o"], 2, [(0, {"a": 3}, {"o": 2}, 1), (1, {"b": 0, "a": 1}, {}, 0)])
        self.assertEqual(noticed(machine, ["a"]), machine)
        self.assertEqual(noticed(machine, ["b"])[0], (0, {"a": 3, "b": 9}, {"o": 2}, 1))
        self.assertEqual(noticed(machine, ["b"])[1], machine[1])

    def test_machines_by_hand_on_all_sets_of_lines(self):
        rng = random.Random(61)
        for _ in range(60):
            machine = loose(rng)
            for lines in subsets(machine.ins):
                told = noticed(machine, lines)
                self.assertEqual(told, noticed_by_hand(machine, lines))
                self.assertEqual([told.standings, told.reached()], [machine.standings, machine.reached()])
                self.assertIs(do_notices_help(machine, lines), is_alike(told))
                self.assertIs(type(do_notices_help(machine, lines)), bool)

    def test_least_notices_by_all_sets_of_lines(self):
        rng = random.Random(610)
        many = {}
        for _ in range(200):
            machine = made_up(rng)[0] if rng.random() < 0.3 else loose(rng)
            helping = [lines for lines in subsets(machine.ins) if is_alike(noticed_by_hand(machine, lines))]
            told = least_notices(machine)
            if helping:
                self.assertEqual(told, [lines for lines in helping if len(lines) == len(helping[0])], machine)
            else:
                self.assertIsNone(told)
            key = None if told is None else (len(told[0]), len(told) > 1)
            many[key] = many.get(key, 0) + 1
            # The fact: on all in-lines it is a matter of equal takes alone.
            self.assertIs(told is None, have_equal_takes(machine))
            self.assertIs(is_alike(noticed(machine, machine.ins)), not have_equal_takes(machine))
        for key in [None, (0, False), (1, True), (1, False), (2, False)]:
            self.assertGreater(many.get(key, 0), 2, (key, many))

    def test_by_doing_all_full_runs_of_small_streams(self):
        rng = random.Random(611)
        for _ in range(25):
            machine = loose(rng)
            for lines in subsets(machine.ins):
                told = noticed(machine, lines)
                if do_notices_help(machine, lines):
                    self.assertTrue(end_alike(told, 3, (0, 1, 9)), (machine, lines))
                else:
                    streams = quarrel(told)[0]
                    self.assertGreater(len(all_ends(told, streams)), 1)
                    self.assertTrue(is_quarrel(told, quarrel(told)))

    def test_an_alike_machine_needs_no_notices(self):
        rng = random.Random(612)
        machines = [free(), Machine(["a"], [], 1, []), Machine(list("abcd"), [], 1, forty()[:9])]
        machines += [strict(rng) for _ in range(10)]
        for machine in machines:
            self.assertEqual(least_notices(machine), [[]])
            self.assertEqual(least_away(machine), [[]])

    def test_equal_takes_at_reached_standings_and_at_others(self):
        twins = [(1, {"a": 0}, {}, 0), (1, {"a": 0}, {}, 1)]
        unreached = Machine(["a", "b"], [], 2, [(0, {"a": 0}, {}, 0), *twins])
        self.assertEqual(least_notices(unreached), [[]])
        reached = Machine(["a", "b"], [], 2, [(0, {"a": 0}, {}, 1), *twins])
        self.assertIsNone(least_notices(reached))
        for lines in subsets(["a", "b"]):
            self.assertIs(do_notices_help(reached, lines), False)
        by_gives = chooser([{"o": 0}, {"o": 1}])
        self.assertIsNone(least_notices(by_gives))

    def test_lists_are_sorted_by_places_of_in_lines_not_by_names(self):
        rows = [(0, {"z": 0}, {}, 1), (0, {"m": 0}, {}, 2), (0, {"a": 0}, {}, 3)]
        machine = Machine(["z", "m", "a"], [], 4, rows)
        self.assertEqual(least_notices(machine), [["z", "m"], ["z", "a"], ["m", "a"]])
        self.assertEqual(least_notices(race().renamed({"a": "z", "b": "y"})), [["z"], ["y"]])

    def test_all_four_in_lines(self):
        rows = [(0, {line: 0}, {"o": place}, 0) for place, line in enumerate("abcd")]
        machine = Machine(list("abcd"), ["o"], 1, rows)
        self.assertEqual(least_notices(machine), [list("abc"), list("abd"), list("acd"), list("bcd")])

    def test_notices_that_are_there_already(self):
        for at in range(3):
            for inside in ({"a": 9}, {"b": 0, "a": 9}, {"b": 9}):
                rows = [(0, {"a": 0}, {}, 0), (1, {"a": 1}, {}, 0)]
                rows.insert(at, (0, inside, {}, 1))
                machine = Machine(["a", "b"], ["o"], 2, rows)
                for lines in ([], ["a"], ["a", "b"]):
                    self.refused(Noticed, {"value": at}, noticed, machine, lines)
                    self.refused(Noticed, {"value": at}, do_notices_help, machine, lines)
                self.refused(Noticed, {"value": at}, least_notices, machine)
        given = Machine(["a"], ["o"], 2, [(0, {"a": 0}, {}, 0), (1, {"a": 0}, {"o": 9}, 1), (0, {"a": 9}, {}, 0)])
        self.refused(Noticed, {"value": 1}, noticed, given, ["a"])
        self.refused(Noticed, {"value": 1}, least_notices, given)

    def test_wrong_lines(self):
        nine = Machine(["a", "b"], ["o"], 1, [(0, {"a": 9}, {}, 0)])
        for function in (noticed, do_notices_help):
            for machine in (race(), nine):
                for value in [*odd_values(), 0, "ab", "a", {}, {"a": 0}]:
                    self.refused(InvalidLines, {"position": None}, function, machine, value)
                for wrong in [*odd_values(), "o", "c", "", "A", 0, ["a"], ("a",), {"a": 0}, b"a"]:
                    self.refused(InvalidLines, {"position": 0}, function, machine, [wrong])
                    self.refused(InvalidLines, {"position": 1}, function, machine, ("b", wrong, "b"))
                self.refused(InvalidLines, {"position": 1}, function, machine, ["a", "a"])
                self.refused(InvalidLines, {"position": 2}, function, machine, ["b", "a", "b", "c"])


class Away(Case):
    def test_ordinary(self):
        machine = race()
        self.assertEqual(away(machine, []), machine)
        self.assertEqual(away(machine, [0, 2]).reactions(), [machine[1]])
        self.assertEqual(away(machine, (2, 0)), away(machine, [0, 2]))
        empty = away(machine, [1, 0, 2])
        self.assertEqual([len(empty), empty.ins, empty.outs, empty.standings], [0, ["a", "b"], ["o"], 2])

    def test_all_sets_of_numbers(self):
        machine = Machine(["a"], ["o"], 2, [(0, {"a": w}, {"o": w}, w % 2) for w in range(5)])
        for numbers in subsets(range(5)):
            rest = [row for number, row in enumerate(machine.reactions()) if number not in numbers]
            for told in itertools.permutations(numbers):
                self.assertEqual(away(machine, told).reactions(), rest)

    def test_wrong_numbers(self):
        machine = race()
        for value in [*odd_values(), 0, "0", {}, {0: 0}]:
            self.refused(InvalidNumber, {"value": value}, away, machine, value)
        for wrong in [*odd_values(), -1, 3, "0", [0], (0,), 10**29]:
            self.refused(InvalidNumber, {"value": wrong}, away, machine, [wrong])
            self.refused(InvalidNumber, {"value": wrong}, away, machine, (1, wrong, 1, "x"))
        self.refused(InvalidNumber, {"value": 1}, away, machine, [0, 1, 1])
        self.refused(InvalidNumber, {"value": 2}, away, machine, [2, 0, 2, 7])
        self.refused(InvalidNumber, {"value": 0}, away, Machine(["a"], [], 1, []), [0])

    def test_least_away_by_all_sets(self):
        rng = random.Random(62)
        many = {}
        for _ in range(220):
            machine = made_up(rng)[0] if rng.random() < 0.5 else loose(rng)
            helping = [numbers for numbers in subsets(range(len(machine)), 2) if is_alike(away(machine, numbers))]
            told = least_away(machine)
            if helping:
                self.assertEqual(told, [numbers for numbers in helping if len(numbers) == len(helping[0])], machine)
            else:
                self.assertIsNone(told)
            key = None if told is None else len(told[0])
            many[key] = many.get(key, 0) + 1
        for key in [None, 0, 1, 2]:
            self.assertGreater(many.get(key, 0), 8, many)

    def test_by_doing_all_full_runs_of_small_streams(self):
        rng = random.Random(620)
        looked = 0
        while looked < 20:
            machine = loose(rng)
            told = least_away(machine)
            if told in (None, [[]]):
                continue
            looked += 1
            for numbers in told:
                self.assertTrue(end_alike(away(machine, numbers), 4, (0, 1)))

    def test_none_one_two_and_more_must_go(self):
        for many in range(5):
            machine = chooser([{"o": worth} for worth in range(many + 1)])
            expected = [sorted(numbers) for numbers in itertools.combinations(range(many + 1), many)]
            self.assertEqual(least_away(machine), expected if many <= 2 else None)

    def test_a_standing_that_is_no_longer_reached(self):
        twins = [(1, {"a": 0}, {}, 0), (1, {"a": 0}, {}, 1), (1, {"a": 0}, {}, 2)]
        machine = Machine(["a"], [], 3, [(0, {"a": 0}, {}, 1), *twins])
        self.assertEqual(least_away(machine), [[0]])
        two_ways = Machine(["a"], [], 3, [(0, {"a": 0}, {}, 1), (0, {"a": 1}, {}, 1), *twins])
        self.assertEqual(least_away(two_ways), [[0, 1], [2, 3], [2, 4], [3, 4]])
        unreached = Machine(["a"], [], 3, [(0, {"a": 0}, {}, 0), *twins])
        self.assertEqual(least_away(unreached), [[]])

    def test_forty_reactions(self):
        rows = [(0, {"a": 0}, {"o": 0}, 0), (0, {"a": 0}, {"o": 1}, 0)]
        rows += [(0, {"b": 0, "c": w % 10}, {}, w // 10) for w in range(38)]
        machine = Machine(["a", "b", "c"], ["o"], 4, rows)
        begun = time.monotonic()
        self.assertIsNone(least_away(machine))
        same = Machine(["a", "b", "c"], ["o"], 4, rows[:2] + [(0, takes, {}, 0) for _, takes, _, _ in rows[2:12]])
        self.assertEqual(least_away(same), [[0], [1]])
        self.assertLess(time.monotonic() - begun, 20)


class ToldBack(Case):
    def test_against_doing_all_runs(self):
        rng = random.Random(63)
        found = missed = 0
        for _ in range(250):
            machine, _ = made_up(rng)
            worths = {line: [rng.randint(0, 1) for _ in range(rng.randint(0, 3))] for line in machine.outs}
            flows = {line: worths[line] for line in rng.sample(machine.outs, len(machine.outs)) if rng.random() < 0.9}
            told = told_back(machine, flows)
            most = 7 if told is None else len(told)
            self.assertEqual(told, told_back_by_hand(machine, flows, min(most, 7)), (machine, flows))
            found, missed = found + (told is not None), missed + (told is None)
        self.assertGreater(found, 40)
        self.assertGreater(missed, 40)

    def test_no_flows(self):
        for machine in (race(), free(), Machine(["a"], [], 1, [])):
            self.assertEqual(told_back(machine, {}), [])
            self.assertEqual(told_back(machine, {line: [] for line in machine.outs}), [])

    def test_flows_that_no_run_has(self):
        self.assertIsNone(told_back(race(), {"o": [2]}))
        self.assertIsNone(told_back(race(), {"o": [1, 0]}))
        self.assertIsNone(told_back(Machine(["a"], ["o"], 1, []), {"o": [0]}))

    def test_several_shortest_runs_the_first_one(self):
        rows = [(0, {"a": 0}, {}, 1), (0, {"a": 1}, {}, 2), (0, {"a": 2}, {}, 3)]
        rows += [(2, {"a": 0}, {"o": 1}, 0), (1, {"a": 0}, {"o": 1}, 0), (3, {"a": 0}, {"o": 1}, 0)]
        machine = Machine(["a"], ["o"], 4, rows)
        self.assertEqual(told_back(machine, {"o": [1]}), [0, 4])
        self.assertEqual(told_back(machine, {"o": [1, 1]}), [0, 4, 0, 4])
        # The shortest goes ahead of the first.
        longer = machine + (0, {"a": 3}, {"o": 1}, 0)
        self.assertEqual(told_back(longer, {"o": [1]}), [6])

    def test_flows_on_several_lines(self):
        rows = [(0, {"a": 0}, {"q": 1, "o": 0}, 0), (0, {"a": 1}, {"p": 5}, 0), (0, {"a": 2}, {"o": 0}, 0)]
        machine = Machine(["a"], ["o", "p", "q"], 1, rows)
        flows = {"q": [1], "p": [5, 5], "o": [0, 0]}
        self.assertEqual(told_back(machine, flows), [0, 1, 1, 2])
        self.assertIsNone(told_back(machine, {"q": [1], "p": [5, 5]}))

    def test_sixteen_worths_and_seventeen(self):
        machine = chooser([{"o": 0}, {"o": 1, "p": 1}])
        self.assertEqual(told_back(machine, {"o": [0] * 16}), [0] * 16)
        self.assertEqual(told_back(machine, {"o": [1] * 8, "p": [1] * 8}), [1] * 8)
        refused = {"what": "worths", "limit": 16}
        self.refused(TooMany, refused, told_back, machine, {"o": [0] * 17})
        self.refused(TooMany, refused, told_back, machine, {"o": [2] * 9, "p": [1] * 8})
        self.refused(TooMany, refused, told_back, machine, {"p": [1] * 2000, "o": ()})
        self.refused(InvalidFlows, {"value": {"o": [0] * 17 + [10]}}, told_back, machine, {"o": [0] * 17 + [10]})

    def test_long_ways_between_gives(self):
        rows = [(at, {"a": 0}, {}, at + 1) for at in range(11)] + [(11, {"a": 0}, {"o": 7}, 0)]
        machine = Machine(["a"], ["o"], 12, rows)
        self.assertEqual(told_back(machine, {"o": [7] * 16}), list(range(12)) * 16)

    def test_it_is_a_run_that_leads_on(self):
        told = told_back(race(), {"o": [0, 0, 1]})
        self.assertEqual([told, taken(race(), told)], [[1, 1, 0, 2], {"a": [0], "b": [0, 0, 0]}])

    def test_wrong_flows(self):
        machine = Machine(["o"], ["a", "b"], 1, [(0, {"o": 0}, {"a": 0}, 0)])
        for value in wrong_streams():
            self.refused(InvalidFlows, {"value": value}, told_back, machine, value)
        self.refused(InvalidFlows, {"value": {Same(): [0]}}, told_back, machine, {Same(): [0]})


class Kept(Case):
    def test_what_is_passed_stays(self):
        lines, numbers, flows = ["b", "a"], [2, 0], {"o": [0, 1]}
        kept = copy.deepcopy([lines, numbers, flows])
        machine = race()
        for call, value in [(noticed, lines), (do_notices_help, lines), (away, numbers), (told_back, flows)]:
            call(machine, value)
        self.assertEqual([lines, numbers, flows, machine], [*kept, race()])

    def test_what_is_told_is_new_also_inside(self):
        machine = race()
        least_notices(machine)[0].append("b")
        least_notices(machine).clear()
        least_away(machine)[1].append(5)
        told_back(machine, {"o": [0]}).append(5)
        told = [least_notices(machine), least_away(machine), told_back(machine, {"o": [0]})]
        self.assertEqual(told, [[["a"], ["b"]], [[0], [1]], [1]])

    def test_smooth_machines_without_reactions_that_are_away(self):
        self.assertIs(is_smooth(away(free(), [1])), True)


if __name__ == "__main__":
    unittest.main()
