"""Joined beats: smooth machines, rough places, what is filled, the greatest reaction."""

import copy
import itertools
import random
import unittest

from loosebeats import smooth
from loosebeats.alike import is_alike
from loosebeats.errors import (
    InvalidNumber,
    InvalidRun,
    InvalidStanding,
    InvalidStreams,
    NotAgreeing,
    NotReached,
    NotSmooth,
    TooMany,
)
from loosebeats.machines import Machine, do_agree, heads
from loosebeats.runs import can_be_done, fewest, is_full, stands_at
from loosebeats.smooth import (
    by_greatest,
    filled,
    greatest,
    is_rough_place,
    is_smooth,
    joined,
    rough_place,
)
from samples import (
    Case,
    Same,
    all_ends,
    are_strict,
    brute_full,
    dict_order,
    forty,
    free,
    loose,
    odd_values,
    race,
    small_streams,
    spoiled,
    strict,
    wrong_streams,
)

ONE_EACH = {"a": [0], "b": [0]}

PARAMETERS = {
    "joined": ["machine", "one", "other"],
    "is_smooth": ["machine"],
    "rough_place": ["machine"],
    "is_rough_place": ["machine", "value"],
    "filled": ["machine"],
    "greatest": ["machine", "standing", "streams"],
    "by_greatest": ["machine", "streams"],
}


def put_together(gives, more):
    """What two give behind each other, as lists."""
    return {line: [dic[line] for dic in (gives, more) if line in dic] for line in [*gives, *more]}


def does_join(machine, both, ahead, number):
    """Whether a reaction, with one behind it, comes to what the joined one comes to."""
    _, takes, gives, goal = machine[ahead]
    _, _, given, later = machine[number]
    left = {line: worth for line, worth in both.items() if line not in takes}
    told = put_together(given, {})
    if not left:
        return goal == later and put_together(gives, {}) == told
    return any(
        at == goal and needs == left and to == later and put_together(gives, more) == told
        for at, needs, more, to in machine.reactions()
    )


def joined_by_hand(machine, one, other):
    both = heads(machine, one, other)
    for number, (standing, takes, _, _) in enumerate(machine.reactions()):
        if standing == machine[one][0] and takes == both:
            if does_join(machine, both, one, number) and does_join(machine, both, other, number):
                return number
    return None


def rough_by_hand(machine):
    """All tuples (one, other) of reached standings that are rough."""
    found = []
    for one, other in itertools.combinations(range(len(machine)), 2):
        if machine[one][0] != machine[other][0] or machine[one][0] not in machine.reached():
            continue
        if machine[one][1] == machine[other][1]:
            found.append((one, other))
        elif do_agree(machine, one, other) and joined_by_hand(machine, one, other) is None:
            found.append((one, other))
    return found


def is_rough_by_hand(machine, value):
    if not isinstance(value, tuple) or not are_strict(value) or len(value) != 3:
        return False
    run, one, other = value
    if not isinstance(run, (list, tuple)) or (one, other) not in rough_by_hand(machine):
        return False
    standing = 0
    for number in run:
        if not isinstance(number, int) or not 0 <= number < len(machine) or machine[number][0] != standing:
            return False
        standing = machine[number][3]
    return standing == machine[one][0]


def first_addition_by_hand(machine):
    """What is added first, by the words of [43]."""
    rows = machine.reactions()
    found = []
    for one, other in itertools.combinations(range(len(rows)), 2):
        standing = rows[one][0]
        if standing not in machine.reached() or not do_agree(machine, one, other):
            continue
        both = heads(machine, one, other)
        if any(at == standing and takes == both for at, takes, _, _ in rows):
            continue
        for behind, behind_too in itertools.product(range(len(rows)), repeat=2):
            ways = []
            for ahead, then in ((one, behind), (other, behind_too)):
                left = {line: worth for line, worth in both.items() if line not in rows[ahead][1]}
                if rows[then][0] == rows[ahead][3] and rows[then][1] == left:
                    ways.append((rows[then][3], put_together(rows[ahead][2], rows[then][2])))
            if len(ways) == 2 and ways[0] == ways[1] and all(len(flow) == 1 for flow in ways[0][1].values()):
                goal, flows = ways[0]
                gives = {line: flow[0] for line, flow in flows.items()}
                found.append(((standing, one, other), (behind, behind_too), (standing, both, gives, goal)))
    return min(found, key=lambda row: row[:2])[2] if found else None


def filled_by_hand(machine):
    """The machine that is filled; None if it would have more than forty reactions."""
    while (reaction := first_addition_by_hand(machine)) is not None:
        if len(machine) == 40:
            return None
        machine = machine + reaction
    return machine


def rows_of(many, more):
    """Reactions on a and b that loop: so many worths of a, so many of b."""
    return [(0, {"a": k}, {}, 0) for k in range(many)] + [(0, {"b": k}, {}, 0) for k in range(more)]


def apart(standings=2):
    """Smooth; standing 1 is not reached, and it is rough."""
    rows = [(0, {"a": 0}, {}, 0), (1, {"a": 0}, {}, 1), (1, {"a": 0}, {}, 0)]
    return Machine(["a"], [], standings, rows)


class Interface(Case):
    def test_what_is_listed_is_defined_there_with_its_names(self):
        self.listed(smooth, PARAMETERS)

    def test_examples(self):
        self.assertEqual(
            [
                is_smooth(free()),
                joined(free(), 0, 1),
                filled(free())[2],
                is_smooth(filled(free())),
                by_greatest(filled(free()), ONE_EACH),
            ],
            [False, None, (0, {"a": 0, "b": 0}, {"o": 1}, 0), True, [2]],
        )

    def test_arguments_by_name(self):
        machine = filled(machine=free())
        self.assertEqual(joined(other=1, one=0, machine=machine), 2)
        self.assertEqual([is_smooth(machine=machine), rough_place(machine=machine)], [True, None])
        self.assertIs(is_rough_place(value=([], 0, 1), machine=free()), True)
        self.assertEqual(greatest(streams=ONE_EACH, standing=0, machine=machine), 2)
        self.assertEqual(by_greatest(streams=ONE_EACH, machine=machine), [2])


class Joined(Case):
    def test_the_joined_one_of_two(self):
        machine = filled(free())
        self.assertEqual([joined(machine, 0, 1), joined(machine, 1, 0)], [2, 2])
        # One that takes all of the heads is the joined one itself.
        self.assertEqual([joined(machine, 0, 2), joined(machine, 2, 1)], [2, 2])

    def test_it_comes_to_the_same_next_and_gives_the_same(self):
        for row in [(0, {"a": 0, "b": 0}, {"o": 1}, 1), (0, {"a": 0, "b": 0}, {}, 0), (0, {"a": 0, "b": 0}, {"o": 0}, 0)]:
            machine = Machine(["a", "b"], ["o"], 2, [*free().reactions(), row])
            self.assertIsNone(joined(machine, 0, 1))
            self.assertIsNone(joined(machine, 0, 2))
        for row in [(0, {"a": 0, "b": 1}, {"o": 1}, 0), (1, {"a": 0, "b": 0}, {"o": 1}, 0)]:
            machine = Machine(["a", "b"], ["o"], 2, [*free().reactions(), row])
            self.assertIsNone(joined(machine, 0, 1))

    def test_heads_that_one_of_both_takes_all_of(self):
        rows = [(0, {"a": 0, "b": 0}, {"o": 1}, 1), (0, {"a": 0}, {}, 2), (2, {"b": 0}, {"o": 1}, 1)]
        self.assertEqual(joined(Machine(["a", "b"], ["o"], 3, rows), 0, 1), 0)
        self.assertEqual(joined(Machine(["a", "b"], ["o"], 3, rows), 1, 0), 0)
        for behind in [(2, {"b": 0}, {"o": 1}, 2), (2, {"b": 0}, {}, 1), (2, {"b": 1}, {"o": 1}, 1)]:
            self.assertIsNone(joined(Machine(["a", "b"], ["o"], 3, [*rows[:2], behind]), 0, 1))
        # It must be one reaction behind it, at its next.
        rows = [(0, {"a": 0, "b": 0, "c": 0}, {}, 0), (0, {"a": 0}, {}, 0), (0, {"b": 0}, {}, 0), (0, {"c": 0}, {}, 0)]
        machine = Machine(["a", "b", "c"], [], 1, rows)
        self.assertIsNone(joined(machine, 0, 1))
        self.assertEqual(joined(machine + (0, {"b": 0, "c": 0}, {}, 0), 0, 1), 0)

    def test_equal_takes_have_no_joined_one(self):
        rows = [(0, {"a": 0}, {}, 0), (0, {"a": 0}, {}, 1), (0, {"a": 0}, {"o": 0}, 0)]
        machine = Machine(["a"], ["o"], 2, rows)
        for one, other in itertools.permutations(range(3), 2):
            self.assertIsNone(joined(machine, one, other))
        self.assertIs(is_smooth(machine), False)

    def test_worths_of_one_line_are_given_by_one_of_both(self):
        rows = [(0, {"a": 0}, {"o": 1}, 0), (0, {"b": 0}, {"o": 1}, 0), (0, {"a": 0, "b": 0}, {"o": 1}, 0)]
        machine = Machine(["a", "b"], ["o", "p"], 1, rows)
        self.assertIsNone(joined(machine, 0, 1))
        rows = [(0, {"a": 0}, {"o": 1}, 0), (0, {"b": 0}, {"p": 2}, 0), (0, {"a": 0, "b": 0}, {"o": 1, "p": 2}, 0)]
        self.assertEqual(joined(Machine(["a", "b"], ["o", "p"], 1, rows), 0, 1), 2)

    def test_the_least_number_of_several(self):
        rows = [(0, {"a": 0}, {}, 0), (0, {"b": 0}, {}, 0)]
        both = {"a": 0, "b": 0}
        rows += [(0, both, {"o": 5}, 0), (0, both, {}, 1), (0, both, {}, 0)]
        self.assertEqual(joined(Machine(["a", "b"], ["o"], 2, rows), 0, 1), 4)
        rows += [(0, {"b": 0}, {}, 1), (0, {"a": 0}, {}, 1)]
        self.assertEqual(joined(Machine(["a", "b"], ["o"], 2, rows), 0, 1), 3)
        self.assertEqual(joined(Machine(["a", "b"], ["o"], 2, rows[:2] + rows[4:] + rows[2:4]), 0, 1), 2)

    def test_also_at_standings_that_are_not_reached(self):
        rows = [(1, {"a": 0}, {}, 1), (1, {"b": 0}, {}, 1), (1, {"a": 0, "b": 0}, {}, 1)]
        self.assertEqual(joined(Machine(["a", "b"], [], 2, rows), 0, 1), 2)
        self.assertIsNone(joined(Machine(["a", "b"], [], 2, rows[:2]), 0, 1))

    def test_against_its_words(self):
        rng = random.Random(41)
        found = {True: 0, False: 0}
        for at in range(300):
            machine = loose(rng)
            machine = filled(machine) if at % 2 else machine
            for one, other in itertools.permutations(range(len(machine)), 2):
                if do_agree(machine, one, other):
                    told = joined(machine, one, other)
                    self.assertEqual(told, joined_by_hand(machine, one, other))
                    found[told is None] += 1
        self.assertGreater(min(found.values()), 200)

    def test_refused(self):
        machine = free()
        for value in [*odd_values(), -1, 2, "0", [0], (0,), {}, 10**29]:
            for other in (0, value, "wrong, too"):
                self.refused(InvalidNumber, {"value": value}, joined, machine, value, other)
            self.refused(InvalidNumber, {"value": value}, joined, machine, 0, value)
        for one, other in [(0, 0), (0, 2), (2, 1), (1, 1)]:
            self.refused(NotAgreeing, {"one": one, "other": other}, joined, race(), one, other)
        worths = Machine(["a"], [], 1, [(0, {"a": 0}, {}, 0), (0, {"a": 1}, {}, 0)])
        self.refused(NotAgreeing, {"one": 1, "other": 0}, joined, worths, 1, 0)


class Smooth(Case):
    def check(self, machine):
        rough = rough_by_hand(machine)
        place = rough_place(machine)
        self.assertIs(is_smooth(machine), not rough)
        if not rough:
            self.assertIsNone(place)
            self.assertIs(is_alike(machine), True)
            return
        self.assertIs(is_rough_place(machine, place), True)
        self.assertTrue(is_rough_by_hand(machine, place))
        self.assertEqual([type(place), type(place[0])], [tuple, list])

    def test_against_its_words(self):
        rng = random.Random(410)
        many = {True: 0, False: 0}
        for at in range(400):
            machine = loose(rng) if at % 4 else strict(rng)
            machine = filled(machine) if at % 3 else machine
            self.check(machine)
            many[is_smooth(machine)] += 1
        self.assertGreater(min(many.values()), 100)

    def test_small_and_great_machines(self):
        self.check(Machine(["a"], [], 1, []))
        self.check(Machine(["a"], [], 1, [(0, {"a": 0}, {}, 0)]))
        self.check(Machine(list("abcd"), [], 1, forty()))
        self.assertIs(is_smooth(Machine(["a"], [], 1, [])), True)
        self.assertIs(is_smooth(Machine(list("abcd"), [], 1, forty())), False)
        self.assertIs(is_smooth(Machine(["a"], [], 1, [(0, {"a": k}, {}, 0) for k in range(10)])), True)

    def test_all_takes_of_four_lines(self):
        subsets = [lines for many in range(1, 5) for lines in itertools.combinations("abcd", many)]
        rows = [(0, {line: 0 for line in lines}, {"o": 5} if "a" in lines else {}, 0) for lines in subsets]
        machine = Machine(list("abcd"), ["o"], 1, rows)
        self.check(machine)
        self.assertIs(is_smooth(machine), True)
        self.assertIs(is_smooth(machine - 14), False)
        self.check(machine - 14)

    def test_standings_that_are_not_reached(self):
        self.assertIs(is_smooth(apart()), True)
        self.assertIsNone(rough_place(apart()))
        reached = apart() + (0, {"a": 1}, {}, 1)
        self.assertIs(is_smooth(reached), False)
        self.assertEqual(rough_place(reached), ([3], 1, 2))
        self.assertIs(is_rough_place(apart(), ([], 1, 2)), False)

    def test_a_far_rough_place(self):
        rows = [(at, {line: 0 for line in "abcd"}, {}, at + 1) for at in range(11)]
        rows += [(11, {"a": 0, "b": 0}, {}, 11), (11, {"c": 0, "d": 0}, {}, 11)]
        machine = Machine(list("abcd"), [], 12, rows)
        self.check(machine)
        self.assertEqual(rough_place(machine), (list(range(11)), 11, 12))
        self.assertIs(is_alike(machine), True)
        full = filled(machine)
        self.assertEqual(full[13], (11, {line: 0 for line in "abcd"}, {}, 11))
        self.check(full)
        self.assertIs(is_smooth(full), True)


class RoughPlaces(Case):
    def test_spoiled(self):
        rng = random.Random(411)
        wrong = right = 0
        for _ in range(120):
            machine = loose(rng)
            place = rough_place(machine)
            if place is None:
                continue
            for value in spoiled(place):
                expected = is_rough_by_hand(machine, value)
                self.assertIs(is_rough_place(machine, value), expected, (machine, value))
                wrong, right = wrong + (not expected), right + expected
            for run in itertools.product(range(len(machine)), repeat=2):
                value = (run, *place[1:])
                self.assertIs(is_rough_place(machine, value), is_rough_by_hand(machine, value))
        self.assertGreater(wrong, 1000)
        self.assertGreater(right, 50)

    def test_none(self):
        good = ([], 0, 1)
        for value in [good, ((), 0, 1), ([0, 1, 1], 0, 1)]:
            self.assertIs(is_rough_place(free(), value), True)
        wrong = [*odd_values(), 0, "", {}, [], (), list(good), good[:2], (*good, 1), ([], 1, 0), ([], 0, 0), ([], 1, 1)]
        wrong += [([], False, 1), ([], 0, True), ([], 0, 2), ([], -1, 1), ([], "0", "1"), (None, 0, 1), ("", 0, 1)]
        wrong += [({}, 0, 1), ([2], 0, 1), ([True], 0, 1), ([-1], 0, 1), ([0, None], 0, 1), ([[0]], 0, 1)]
        wrong += [(value, 0, 1) for value in odd_values()]
        wrong += [([], value, 1) for value in odd_values()] + [([], 0, value) for value in odd_values()]
        wrong += [([value], 0, 1) for value in odd_values()]
        for value in wrong:
            self.assertIs(is_rough_place(free(), value), False)
        self.assertIs(is_rough_place(filled(free()), good), False)
        self.assertIs(is_rough_place(race(), ([], 0, 1)), True)
        # These two are not of the standing that the run leads to, or of no one standing, or do not agree.
        self.assertIs(is_rough_place(race(), ([0], 0, 1)), False)
        self.assertIs(is_rough_place(race(), ([], 1, 2)), False)
        worths = Machine(["a"], [], 1, [(0, {"a": 0}, {}, 0), (0, {"a": 1}, {}, 0)])
        self.assertIs(is_rough_place(worths, good), False)

    def test_the_run_needs_not_be_the_shortest(self):
        reached = apart() + (0, {"a": 1}, {}, 1)
        self.assertIs(is_rough_place(reached, ([0] * 1000 + [3] + [1] * 999, 1, 2)), True)
        self.assertIs(is_rough_place(reached, ([0] * 1000 + [3, 0], 1, 2)), False)
        self.assertEqual(stands_at(reached, [3, 2]), 0)
        self.assertIs(is_rough_place(reached, ([3, 2], 1, 2)), False)


class Filled(Case):
    def test_against_its_words(self):
        rng = random.Random(43)
        more = 0
        for at in range(250):
            machine = loose(rng) if at % 5 else strict(rng)
            told = filled(machine)
            self.assertEqual(told, filled_by_hand(machine))
            self.assertEqual(told.reactions()[: len(machine)], machine.reactions())
            self.assertEqual(filled(told), told)
            self.assertEqual(told.reached(), machine.reached())
            more += len(told) > len(machine)
        self.assertGreater(more, 30)

    def test_all_streams_have_the_same_ends_then(self):
        rng = random.Random(430)
        compared = 0
        while compared < 25:
            machine = loose(rng)
            full = filled(machine)
            if full == machine:
                continue
            compared += 1
            for streams in small_streams(machine, 4):
                self.assertEqual(all_ends(full, streams), all_ends(machine, streams))
            self.assertIs(is_alike(full), is_alike(machine))

    def test_several_steps(self):
        rows = [(0, {line: 0}, {given: 1}, 0) for line, given in zip("abc", "opq")]
        full = filled(Machine(list("abc"), list("opq"), 1, rows))
        self.assertEqual(len(full), 7)
        self.assertEqual(
            full.reactions()[3:],
            [
                (0, {"a": 0, "b": 0}, {"o": 1, "p": 1}, 0),
                (0, {"a": 0, "c": 0}, {"o": 1, "q": 1}, 0),
                (0, {"b": 0, "c": 0}, {"p": 1, "q": 1}, 0),
                (0, {"a": 0, "b": 0, "c": 0}, {"o": 1, "p": 1, "q": 1}, 0),
            ],
        )
        self.assertEqual(dict_order(full[6][1]), [("a", 0), ("b", 0), ("c", 0)])
        self.assertIs(is_smooth(full), True)

    def test_the_least_standing_goes_first(self):
        rows = [(1, {"a": 0}, {}, 1), (1, {"b": 0}, {}, 1), (0, {"a": 0}, {}, 0), (0, {"b": 0}, {}, 0)]
        rows.append((0, {"b": 1}, {}, 1))
        full = filled(Machine(["a", "b"], [], 2, rows))
        self.assertEqual([row[0] for row in full.reactions()[5:7]], [0, 0])
        takes = [(0, {"a": 0, "b": 0}), (0, {"a": 0, "b": 1}), (1, {"a": 0, "b": 0})]
        self.assertEqual([row[:2] for row in full.reactions()[5:]], takes)
        self.assertEqual(full[6][3], 1)

    def test_it_is_the_standing_that_goes_first_not_its_next(self):
        rows = [(1, {"a": 0}, {}, 0), (1, {"b": 0}, {}, 0), (0, {"a": 0}, {}, 1), (0, {"b": 0}, {}, 1)]
        both = {"a": 0, "b": 0}
        self.assertEqual(filled(Machine(["a", "b"], [], 2, rows)).reactions()[4:], [(0, both, {}, 0), (1, both, {}, 1)])

    def test_at_most_one_on_each_line(self):
        rows = [(0, {"a": 0}, {"o": 1}, 0), (0, {"b": 0}, {"o": 1}, 0)]
        machine = Machine(["a", "b"], ["o"], 1, rows)
        self.assertEqual(filled(machine), machine)
        self.assertIs(is_alike(machine), True)

    def test_no_heads_that_are_taken_already(self):
        rows = [*free().reactions(), (0, {"a": 0, "b": 0}, {"o": 7}, 0)]
        machine = Machine(["a", "b"], ["o"], 1, rows)
        self.assertEqual(filled(machine), machine)
        rows = [(0, {"a": 0, "b": 0}, {}, 0), (0, {"a": 0}, {}, 1), (1, {"b": 0}, {}, 0)]
        machine = Machine(["a", "b"], [], 2, rows)
        self.assertEqual(filled(machine), machine)

    def test_no_standings_that_are_not_reached(self):
        rows = [(1, {"a": 0}, {}, 1), (1, {"b": 0}, {}, 1)]
        machine = Machine(["a", "b"], [], 2, rows)
        self.assertEqual(filled(machine), machine)
        self.assertEqual(len(filled(machine + (0, {"a": 0}, {}, 1))), 4)

    def test_several_ways_the_least_goes_first(self):
        rows = [(0, {"a": 0}, {}, 1), (0, {"b": 0}, {}, 2)]
        behind = [(1, {"b": 0}, {"o": 1}, 3), (1, {"b": 0}, {"o": 2}, 3), (2, {"a": 0}, {"o": 2}, 3)]
        behind.append((2, {"a": 0}, {"o": 1}, 3))
        machine = Machine(["a", "b"], ["o"], 4, rows + behind)
        self.assertEqual(filled(machine).reactions()[6:], [(0, {"a": 0, "b": 0}, {"o": 1}, 3)])
        machine = Machine(["a", "b"], ["o"], 4, rows + [behind[1], behind[3], behind[0], behind[2]])
        self.assertEqual(filled(machine).reactions()[6:], [(0, {"a": 0, "b": 0}, {"o": 2}, 3)])
        goals = [(1, {"b": 0}, {}, 3), (2, {"a": 0}, {}, 0), (1, {"b": 0}, {}, 0)]
        machine = Machine(["a", "b"], ["o"], 4, rows + goals)
        self.assertEqual(filled(machine).reactions()[5], (0, {"a": 0, "b": 0}, {}, 0))

    def test_forty_and_one_more(self):
        rows = rows_of(7, 4)
        self.assertEqual(len(filled(Machine(["a", "b"], [], 1, rows))), 39)
        one_more = Machine(["a", "b"], [], 2, [*rows, (1, {"a": 0}, {}, 1)])
        self.assertEqual(len(filled(one_more)), 40)
        two_more = one_more + (1, {"a": 1}, {}, 1)
        self.refused(TooMany, {"what": "reactions", "limit": 40}, filled, two_more)
        self.refused(TooMany, {"what": "reactions", "limit": 40}, filled, Machine(["a", "b"], [], 1, rows_of(10, 10)))
        self.refused(TooMany, {"what": "reactions", "limit": 40}, filled, Machine(list("abcd"), [], 1, forty()))
        full = Machine(["a"], [], 4, [(k // 10, {"a": k % 10}, {}, k % 4) for k in range(40)])
        self.assertEqual(filled(full), full)

    def test_without_reactions(self):
        machine = Machine(["a"], [], 1, [])
        self.assertEqual(filled(machine), machine)


class Greatest(Case):
    def test_it_takes_all_that_any_takes(self):
        rng = random.Random(42)
        looked = 0
        while looked < 60:
            machine = filled(loose(rng))
            if not is_smooth(machine) or len(machine) < 3:
                continue
            looked += 1
            for streams in itertools.islice(small_streams(machine, 3), 60):
                for standing in machine.reached():
                    able = can_be_done(machine, standing, streams)
                    told = greatest(machine, standing, streams)
                    if not able:
                        self.assertIsNone(told)
                        continue
                    self.assertIn(told, able)
                    for number in able:
                        self.assertLessEqual(machine[number][1].items(), machine[told][1].items())

    def test_by_greatest_has_the_fewest(self):
        rng = random.Random(420)
        looked = 0
        while looked < 40:
            machine = filled(loose(rng))
            if not is_smooth(machine) or len(machine) < 3:
                continue
            looked += 1
            for streams in itertools.islice(small_streams(machine, 4), 0, None, 3):
                run = by_greatest(machine, streams)
                self.assertIs(is_full(machine, streams, run), True)
                self.assertEqual(len(run), min(len(other) for other, _ in brute_full(machine, streams)))
                self.assertEqual(len(run), fewest(machine, streams))
                self.by_hand(machine, streams, run)

    def by_hand(self, machine, streams, run):
        standing, rests = 0, {line: list(streams.get(line, [])) for line in machine.ins}
        for number in run:
            self.assertEqual(greatest(machine, standing, rests), number)
            _, takes, _, standing = machine[number]
            rests = {line: rest[1:] if line in takes else rest for line, rest in rests.items()}
        self.assertIsNone(greatest(machine, standing, rests))

    def test_ordinary(self):
        machine = filled(free())
        self.assertEqual(greatest(machine, 0, {"a": [0, 1]}), 0)
        self.assertEqual(greatest(machine, 0, {"a": (0,), "b": (0, 5)}), 2)
        self.assertIsNone(greatest(machine, 0, {"a": [1, 0], "b": []}))
        self.assertEqual(by_greatest(machine, {"a": [0, 0, 0], "b": [0, 1]}), [2, 0, 0])
        self.assertEqual(by_greatest(machine, {}), [])

    def test_without_reactions_and_without_streams(self):
        machine = Machine(["a"], [], 1, [])
        self.assertEqual([greatest(machine, 0, {"a": [0]}), by_greatest(machine, {"a": [0]})], [None, []])

    def test_long_streams(self):
        told = by_greatest(filled(free()), {"a": [0] * 2000, "b": [0] * 1000})
        self.assertEqual(told, [2] * 1000 + [0] * 1000)

    def test_refused(self):
        smooth_one, rough = apart(3), race()
        for value in [*odd_values(), -1, 3, "0", [0], (0,), {}, 10**29]:
            for streams in ({}, "wrong, too"):
                self.refused(InvalidStanding, {"value": value}, greatest, smooth_one, value, streams)
                self.refused(InvalidStanding, {"value": value}, greatest, rough, value, streams)
        for value in [None, [], {"b": []}, {"a": 0}, {"a": [10]}, {"a": [True]}, {True: []}, {Same(): []}]:
            for standing in (0, 1):
                self.refused(InvalidStreams, {"value": value}, greatest, smooth_one, standing, value)
            self.refused(InvalidStreams, {"value": value}, by_greatest, smooth_one, value)
        for value in wrong_streams():
            self.refused(InvalidStreams, {"value": value}, greatest, rough, 0, value)
            self.refused(InvalidStreams, {"value": value}, by_greatest, rough, value)
        for standing in (1, 2):
            self.refused(NotReached, {"value": standing}, greatest, smooth_one, standing, {"a": [0]})
        self.refused(NotSmooth, {}, greatest, rough, 0, {})
        self.refused(NotSmooth, {}, by_greatest, rough, ONE_EACH)
        self.refused(NotSmooth, {}, greatest, free(), 0, ONE_EACH)
        # A standing that is not reached, of a machine that is not smooth.
        unreached = Machine(["a", "b"], [], 2, [(0, {"a": 0}, {}, 0), (0, {"b": 0}, {}, 0)])
        self.refused(NotSmooth, {}, greatest, unreached, 1, {})


class Kept(Case):
    def test_what_is_passed_stays(self):
        machine, streams, place = filled(free()), {"b": [0, 1], "a": (0, 0)}, ([0], 0, 1)
        kept = copy.deepcopy([streams, place])
        greatest(machine, 0, streams)
        by_greatest(machine, streams)
        is_rough_place(free(), place)
        self.assertEqual([streams, place, list(streams)], [*kept, ["b", "a"]])
        self.assertEqual(machine, filled(free()))

    def test_what_is_told_is_new(self):
        machine = free()
        rough_place(machine)[0].append(5)
        by_greatest(filled(machine), ONE_EACH).append(5)
        filled(machine).reactions().clear()
        self.assertEqual([rough_place(machine), by_greatest(filled(machine), ONE_EACH)], [([], 0, 1), [2]])
        self.assertEqual(machine, free())
        self.refused(InvalidRun, {"position": 0}, is_full, machine, {}, [5])


if __name__ == "__main__":
    unittest.main()
