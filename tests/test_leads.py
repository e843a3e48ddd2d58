"""How far a line can run ahead of another one: greatest leads, heights, rising rings."""

import copy
import itertools
import random
import unittest

from loosebeats import leads
from loosebeats.errors import InvalidCount, InvalidLine
from loosebeats.leads import are_heights, greatest_lead, heights, is_ring, ring
from loosebeats.machines import Machine
from samples import Case, Same, are_strict, free, loose, made_up, odd_values, race, spoiled

PARAMETERS = {
    "greatest_lead": ["machine", "line", "other"],
    "heights": ["machine", "line", "other"],
    "are_heights": ["machine", "line", "other", "most", "value"],
    "ring": ["machine", "line", "other"],
    "is_ring": ["machine", "line", "other", "value"],
}


def rise(machine, number, line, other):
    _, takes, gives, _ = machine[number]
    lines = [*takes, *gives]
    return (line in lines) - (other in lines)


def leads_on(machine, run, standing=0):
    """The standing to which a run leads from another one; None if it is none."""
    for number in run:
        if type(number) is not int or not 0 <= number < len(machine) or machine[number][0] != standing:
            return None
        standing = machine[number][3]
    return standing


def greatest_of_runs(machine, line, other, most):
    """The greatest lead behind runs of at most so many reactions, by doing all of them."""
    level, greatest = {(0, 0)}, 0
    for _ in range(most):
        level = {
            (machine[number][3], lead + rise(machine, number, line, other))
            for standing, lead in level
            for number in machine.at(standing)
        }
        greatest = max([greatest, *(lead for _, lead in level)])
    return greatest


def are_heights_by_hand(machine, line, other, most, value):
    if not isinstance(value, dict) or not are_strict(value) or set(value) != set(machine.reached()):
        return False
    if any(not isinstance(height, int) or height > most for height in value.values()) or value[0] < 0:
        return False
    for number in range(len(machine)):
        standing, _, _, goal = machine[number]
        if standing in value and value[goal] < value[standing] + rise(machine, number, line, other):
            return False
    return True


def is_ring_by_hand(machine, line, other, value):
    if type(value) is not tuple or len(value) != 2 or not are_strict(value):
        return False
    if not all(isinstance(run, (list, tuple)) for run in value):
        return False
    standing = leads_on(machine, value[0])
    if standing is None or leads_on(machine, value[1], standing) != standing:
        return False
    return sum(rise(machine, number, line, other) for number in value[1]) > 0


def lines_of(machine):
    return machine.ins + machine.outs


def wheel(many, back):
    """A ring of standings that takes from a at each, and from b too, or alone, at some."""
    rows = [(k, {line: 0 for line in back.get(k, "a")}, {}, (k + 1) % many) for k in range(many)]
    return Machine(["a", "b"], ["o"], many, rows)


class Interface(Case):
    def test_what_is_listed_is_defined_there_with_its_names(self):
        self.listed(leads, PARAMETERS)

    def test_examples(self):
        told = [greatest_lead(race(), "a", "b"), greatest_lead(race(), "b", "a"), is_ring(race(), "b", "a", ([], [1]))]
        self.assertEqual([*told, greatest_lead(race(), "o", "b")], [1, None, True, 0])

    def test_arguments_by_name(self):
        self.assertEqual(greatest_lead(other="b", line="a", machine=race()), 1)
        told = heights(other="b", line="a", machine=race())
        self.assertIs(are_heights(value=told, most=1, other="b", line="a", machine=race()), True)
        self.assertIsNone(ring(other="b", line="a", machine=race()))
        self.assertIs(is_ring(value=([], [1]), other="a", line="b", machine=race()), True)


class Greatest(Case):
    def test_against_doing_all_runs(self):
        rng = random.Random(81)
        many = {}
        for place in range(250):
            machine = made_up(rng)[0] if place % 2 else loose(rng)
            for line, other in itertools.product(lines_of(machine), repeat=2):
                told = greatest_lead(machine, line, other)
                paper, rising = heights(machine, line, other), ring(machine, line, other)
                few = greatest_of_runs(machine, line, other, machine.standings)
                lots = greatest_of_runs(machine, line, other, 5 * machine.standings)
                self.assertEqual([told is None, told is None], [paper is None, rising is not None])
                if told is None:
                    self.assertGreater(lots, few)
                    self.assertTrue(is_ring_by_hand(machine, line, other, rising))
                    self.assertIs(is_ring(machine, line, other, rising), True)
                else:
                    self.assertEqual([told, told, type(told)], [few, lots, int])
                    self.assertTrue(are_heights_by_hand(machine, line, other, told, paper))
                    self.assertIs(are_heights(machine, line, other, told, paper), True)
                    self.assertEqual([max(paper.values()), list(paper)], [told, machine.reached()])
                    if told > 0:
                        self.assertIs(are_heights(machine, line, other, told - 1, paper), False)
                many[told] = many.get(told, 0) + 1
        for key, fewest in [(None, 20), (0, 20), (1, 20), (2, 2)]:
            self.assertGreater(many.get(key, 0), fewest, many)

    def test_no_heights_are_less_than_the_greatest_lead(self):
        rng = random.Random(810)
        looked = 0
        while looked < 25:
            machine = loose(rng)
            line, other = rng.choice(lines_of(machine)), rng.choice(lines_of(machine))
            told, reached = greatest_lead(machine, line, other), machine.reached()
            if told is None or len(reached) < 2:
                continue
            looked += 1
            found = []
            for row in itertools.product(range(-3, 4), repeat=len(reached)):
                value = dict(zip(reached, row))
                right = are_heights_by_hand(machine, line, other, 9, value)
                self.assertIs(are_heights(machine, line, other, 9, value), right)
                found += [max(row)] * right
            self.assertEqual(min(found, default=told), told)

    def test_a_line_before_itself(self):
        for machine in (race(), free(), wheel(3, {})):
            for line in lines_of(machine):
                self.assertEqual(greatest_lead(machine, line, line), 0)
                told = heights(machine, line, line)
                self.assertEqual([max(told.values()), ring(machine, line, line)], [0, None])
                self.assertIs(is_ring(machine, line, line, ([], [])), False)

    def test_before_lines_that_none_or_each_reaction_has(self):
        machine = wheel(3, {})
        self.assertIsNone(greatest_lead(machine, "a", "b"))
        self.assertEqual([greatest_lead(machine, "b", "a"), greatest_lead(machine, "b", "o")], [0, 0])
        each = Machine(["a", "b"], ["o"], 2, [(0, {"a": 0}, {"o": 0}, 1), (1, {"b": 0, "a": 1}, {"o": 0}, 0)])
        self.assertEqual([greatest_lead(each, "a", "o"), greatest_lead(each, "o", "b")], [0, None])
        self.assertEqual(greatest_lead(Machine(["a"], ["o"], 1, []), "a", "o"), 0)

    def test_great_leads(self):
        for many in range(1, 12):
            rows = [(k, {"a": 0}, {}, k + 1) for k in range(many)] + [(many, {"b": 0}, {}, many)]
            machine = Machine(["a", "b"], ["o"], many + 1, rows)
            self.assertEqual([greatest_lead(machine, "a", "b"), greatest_lead(machine, "b", "a")], [many, None])
            self.assertEqual(heights(machine, "a", "b"), {k: k for k in range(many + 1)})
            way, back = ring(machine, "b", "a")
            self.assertEqual([way, set(back)], [list(range(many)), {many}])

    def test_rings_that_just_rise_and_just_do_not(self):
        for many in range(2, 13):
            half = many // 2
            even = {k: "b" for k in range(half)}
            machine = wheel(many, even)
            self.assertEqual(greatest_lead(machine, "a", "b"), 0 if many % 2 == 0 else None)
            self.assertEqual(greatest_lead(machine, "b", "a"), half)
            told = ring(machine, "a", "b")
            self.assertIs(told is None, many % 2 == 0)
            if told is not None:
                self.assertTrue(is_ring_by_hand(machine, "a", "b", told))

    def test_a_ring_for_which_the_best_reaction_stands_behind_others(self):
        rows = [(0, {"a": 0}, {}, 1), (1, {"b": 0}, {}, 0), (1, {"a": 0, "b": 0}, {}, 0), (1, {"b": 1}, {}, 0)]
        machine = Machine(["a", "b"], [], 2, rows)
        self.assertEqual([greatest_lead(machine, "a", "b"), ring(machine, "a", "b")], [None, ([], [0, 2])])

    def test_standings_that_are_not_reached(self):
        machine = Machine(["a", "b"], [], 3, [(0, {"b": 0}, {}, 0), (1, {"a": 0}, {}, 1), (2, {"a": 0}, {}, 0)])
        self.assertEqual([greatest_lead(machine, "a", "b"), heights(machine, "a", "b")], [0, {0: 0}])
        self.assertIs(is_ring(machine, "a", "b", ([], [1])), False)
        self.assertIsNone(ring(machine, "a", "b"))

    def test_heights_may_be_less_than_none(self):
        machine = Machine(["a", "b"], [], 2, [(0, {"b": 0}, {}, 1), (1, {"b": 0, "a": 0}, {}, 1)])
        self.assertEqual(greatest_lead(machine, "a", "b"), 0)
        for low, right in [(-1, True), (-2, False), (0, True), (1, False)]:
            self.assertIs(are_heights(machine, "a", "b", 0, {0: 0, 1: low}), right)

    def test_wrong_lines(self):
        calls = [(greatest_lead, []), (heights, []), (ring, []), (are_heights, ["wrong", {0: 0}]), (is_ring, [0])]
        for call, rest in calls:
            for wrong in [*odd_values(), "c", "", "A", 0, ["a"], ("a",), {"a": 0}, "ab"]:
                self.refused(InvalidLine, {"value": wrong}, call, race(), wrong, "wrong", *rest)
                self.refused(InvalidLine, {"value": wrong}, call, race(), "o", wrong, *rest)


class Heights(Case):
    def test_heights_that_are_spoiled(self):
        rng = random.Random(811)
        wrong = right = 0
        for _ in range(60):
            machine = loose(rng)
            for line, other in itertools.product(lines_of(machine), repeat=2):
                told = heights(machine, line, other)
                if told is None:
                    continue
                for value in itertools.chain([told], spoiled(told)):
                    most = max(told.values()) + rng.randint(0, 1)
                    expected = are_heights_by_hand(machine, line, other, most, value)
                    self.assertIs(are_heights(machine, line, other, most, value), expected, (machine, value))
                    wrong, right = wrong + (not expected), right + expected
        self.assertGreater(wrong, 2000)
        self.assertGreater(right, 200)

    def test_wrong_heights(self):
        machine = race()
        for value in [{0: 0, 1: 1}, {1: 1, 0: 0}, {0: 1, 1: 2}, {0: 2, 1: 5}]:
            self.assertIs(are_heights(machine, "a", "b", 5, value), True)
        wrong = [*odd_values(), 0, "", [], (), {}, [0, 1], [(0, 0), (1, 1)], {0: 0}, {1: 1}, {0: 0, 1: 1, 2: 2}]
        wrong += [{False: 0, 1: 1}, {0: 0, True: 1}, {0: False, 1: 1}, {0: 0, 1: True}, {0: 0, 1: "1"}, {"0": 0, 1: 1}]
        wrong += [{0: 0, 1: 0}, {0: -1, 1: 0}, {0: -1, 1: 5}, {0: 0, 1: 6}, {0: 6, 1: 7}, {0: 0, 1: None}]
        wrong += [{0: 0, 1: (1,)}, {0: 0, 1: Same()}, {0: 0, (1,): 1}, {0: 0, None: 1}, {0: 0, 1: 10**29}]
        for value in wrong:
            self.assertIs(are_heights(machine, "a", "b", 5, value), False, value)
        for most in (0, 1, 100, 10**29):
            self.assertIs(are_heights(machine, "b", "a", most, {0: 0, 1: 0}), False)
        self.assertIs(are_heights(machine, "a", "b", 0, {0: 0, 1: 1}), False)

    def test_wrong_most(self):
        for most in [*odd_values(), -1, "0", [0], (0,), {}, -(10**29)]:
            self.refused(InvalidCount, {"value": most}, are_heights, race(), "a", "b", most, {0: 0, 1: 1})
            self.refused(InvalidCount, {"value": most}, are_heights, race(), "b", "a", most, None)
            self.refused(InvalidLine, {"value": "k"}, are_heights, race(), "a", "k", most, None)


class Rings(Case):
    def test_rings_that_are_spoiled(self):
        rng = random.Random(812)
        wrong = right = 0
        for _ in range(80):
            machine = loose(rng)
            for line, other in itertools.product(lines_of(machine), repeat=2):
                told = ring(machine, line, other)
                if told is None:
                    continue
                for value in spoiled(told):
                    expected = is_ring_by_hand(machine, line, other, value)
                    self.assertIs(is_ring(machine, line, other, value), expected, (machine, value))
                    wrong, right = wrong + (not expected), right + expected
        self.assertGreater(wrong, 1000)
        self.assertGreater(right, 100)

    def test_all_short_rings(self):
        rng = random.Random(813)
        for _ in range(25):
            machine = loose(rng)
            line, other = rng.choice(machine.ins), rng.choice(lines_of(machine))
            runs = [list(run) for many in range(3) for run in itertools.product(range(len(machine)), repeat=many)]
            for way, back in itertools.islice(itertools.product(runs, repeat=2), 3000):
                expected = is_ring_by_hand(machine, line, other, (way, back))
                self.assertIs(is_ring(machine, line, other, (way, back)), expected)

    def test_wrong_rings(self):
        machine = race()
        for value in [([], [1]), ((), (1, 1)), ([1, 0], [2]), ([0, 2], (2, 2)), ([1] * 1000, [1] * 1000)]:
            self.assertIs(is_ring(machine, "b", "a", value), True)
        wrong = [*odd_values(), 0, "", {}, [], (), [[], [1]], ([],), ([1],), ([], [1], []), ([], []), ([], [0])]
        wrong += [([], [2]), ([0], [1]), ([1], [0]), ([], [0, 2]), ([], [True]), ([True], [1]), ([], "1"), ("", [1])]
        wrong += [([], {1}), ({}, [1]), ([], None), (None, [1]), ([], [3]), ([], [-2]), ([3], [1]), ([], [[1]])]
        wrong += [([], [value]) for value in odd_values()] + [([value], [1]) for value in odd_values()]
        for value in wrong:
            self.assertIs(is_ring(machine, "b", "a", value), False, value)
        self.assertIs(is_ring(machine, "a", "b", ([], [1])), False)
        self.assertIs(is_ring(machine, "o", "b", ([], [1])), False)


class Kept(Case):
    def test_what_is_passed_stays(self):
        tall, rising = {1: 1, 0: 0}, ([1], [1])
        kept = copy.deepcopy([tall, rising])
        machine = race()
        are_heights(machine, "a", "b", 1, tall)
        is_ring(machine, "b", "a", rising)
        self.assertEqual([tall, rising, list(tall), machine], [*kept, [1, 0], race()])

    def test_what_is_told_is_new_also_inside(self):
        machine = race()
        heights(machine, "a", "b").clear()
        ring(machine, "b", "a")[0].append(5)
        ring(machine, "b", "a")[1].clear()
        self.assertEqual([heights(machine, "a", "b"), ring(machine, "b", "a")], [{0: 0, 1: 1}, ([], [1])])

    def test_kinds_of_what_is_told(self):
        told = ring(race(), "b", "a")
        self.assertEqual([type(told), type(told[0]), type(told[1])], [tuple, list, list])
        self.assertEqual([type(heights(race(), "a", "b")), type(is_ring(race(), "b", "a", told))], [dict, bool])
        self.assertIs(type(are_heights(race(), "b", "a", 0, told)), bool)


if __name__ == "__main__":
    unittest.main()
