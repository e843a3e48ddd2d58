"""All streams, all pacings: closings, quarrels and ends."""

import copy
import itertools
import random
import unittest

from loosebeats import alike
from loosebeats.alike import (
    are_closings,
    closing,
    closings,
    end,
    is_alike,
    is_closing,
    is_quarrel,
    least_quarrel,
    quarrel,
)
from loosebeats.errors import InvalidNumber, InvalidStreams, NotAgreeing, NotAlike
from loosebeats.machines import Machine, do_agree, heads
from samples import (
    Case,
    Same,
    all_ends,
    are_strict,
    brute_full,
    dict_order,
    doubled,
    forty,
    forward,
    free,
    loose,
    odd_values,
    race,
    small_streams,
    spoiled,
    strict,
    wrong_streams,
)

ONE_EACH = {"a": [0], "b": [0]}

PARAMETERS = {
    "closing": ["machine", "one", "other"],
    "is_closing": ["machine", "one", "other", "value"],
    "is_alike": ["machine"],
    "closings": ["machine"],
    "are_closings": ["machine", "value"],
    "quarrel": ["machine"],
    "is_quarrel": ["machine", "value"],
    "least_quarrel": ["machine"],
    "end": ["machine", "streams"],
}


def agreeing_by_hand(machine):
    reached = machine.reached()
    numbers = range(len(machine))
    pairs = [pair for pair in itertools.combinations(numbers, 2) if do_agree(machine, *pair)]
    return [pair for pair in pairs if machine[pair[0]][0] in reached]


def runs_by_heads(machine, first, both):
    """All runs by heads that begin with this reaction, as what is done behind it, each with its end."""
    standing = machine[first][0]
    found, level = {}, [[]]
    while level:
        more = []
        for run in level:
            place = forward(machine, standing, both, [first, *run])
            if place is not None:
                found[tuple(run)] = place
                more.extend([*run, number] for number in range(len(machine)))
        level = more
    return found


def is_closing_by_hand(machine, one, other, value):
    if not isinstance(value, tuple) or not are_strict(value) or len(value) != 2:
        return False
    if not all(isinstance(run, (list, tuple)) for run in value):
        return False
    both = {line: [worth] for line, worth in heads(machine, one, other).items()}
    standing = machine[one][0]
    place = forward(machine, standing, both, [one, *value[0]])
    return place is not None and place == forward(machine, standing, both, [other, *value[1]])


def are_closings_by_hand(machine, value):
    if not isinstance(value, dict) or not all(are_strict(key) for key in value):
        return False
    if set(value) != set(agreeing_by_hand(machine)):
        return False
    return all(is_closing_by_hand(machine, *pair, told) for pair, told in value.items())


def is_quarrel_by_hand(machine, value):
    if not isinstance(value, tuple) or not are_strict(value) or len(value) != 3 or not isinstance(value[0], dict):
        return False
    streams, *runs = value
    for line, stream in streams.items():
        if line not in machine.ins or not isinstance(stream, (list, tuple)):
            return False
        if not all(isinstance(worth, int) and 0 <= worth <= 9 for worth in stream):
            return False
    if not all(isinstance(run, (list, tuple)) for run in runs):
        return False
    places = [forward(machine, 0, streams, run) for run in runs]
    full = {tuple(run) for run, _ in brute_full(machine, streams)}
    return None not in places and all(tuple(run) in full for run in runs) and places[0] != places[1]


def cross():
    """At 0 both ways of closing have two reactions behind them; at 4, not reached, two have equal takes."""
    return Machine(
        ["a", "b", "c"],
        ["o"],
        5,
        [
            (0, {"a": 0}, {"o": 1}, 1),
            (0, {"b": 0, "c": 0}, {}, 2),
            (1, {"b": 0}, {}, 3),
            (3, {"c": 0}, {}, 2),
            (2, {"a": 0}, {"o": 1}, 2),
            (4, {"a": 0}, {}, 4),
            (4, {"a": 0}, {}, 0),
        ],
    )


class Interface(Case):
    def test_what_is_listed_is_defined_there_with_its_names(self):
        self.listed(alike, PARAMETERS)

    def test_examples(self):
        self.assertEqual(
            [is_alike(race()), is_quarrel(race(), (ONE_EACH, [0, 2], [1, 0])), least_quarrel(race()), closings(race())],
            [False, True, 2, None],
        )
        self.assertEqual(
            [closings(free()), end(free(), {"a": [0, 0, 1], "b": [0]})],
            [{(0, 1): ([1], [0])}, (0, ((1,), ()), ((1, 1),))],
        )

    def test_arguments_by_name(self):
        self.assertEqual(closing(other=1, one=0, machine=free()), ([1], [0]))
        self.assertIs(is_closing(value=([1], [0]), other=1, one=0, machine=free()), True)
        self.assertIs(are_closings(value={(0, 1): ([1], [0])}, machine=free()), True)
        self.assertEqual(end(streams={"b": [0]}, machine=free()), (0, ((), ()), ((),)))
        self.assertIs(is_quarrel(value=(ONE_EACH, [0, 2], [1, 0]), machine=race()), True)
        self.assertEqual([is_alike(machine=race()), least_quarrel(machine=race())], [False, 2])
        self.assertEqual([closings(machine=race()), quarrel(machine=free())], [None, None])


class Closing(Case):
    def test_two_that_commute(self):
        for _ in range(2):
            self.assertEqual(closing(free(), 0, 1), ([1], [0]))
            self.assertEqual(closing(free(), 1, 0), ([0], [1]))
        self.assertIsNone(closing(race(), 0, 1))

    def test_equal_takes_at_one_standing(self):
        for row in [(0, {"a": 0}, {}, 1), (0, {"a": 0}, {"o": 0}, 0), (0, {"a": 0}, {"o": 1}, 1)]:
            machine = Machine(["a"], ["o"], 2, [(0, {"a": 0}, {}, 0), row])
            self.assertIsNone(closing(machine, 0, 1))
            self.assertEqual([is_alike(machine), closings(machine), least_quarrel(machine)], [False, None, 1])
            self.assertIs(is_closing(machine, 0, 1, ([], [])), False)

    def test_one_that_takes_all_heads(self):
        rows = [(0, {"a": 0, "b": 0}, {"o": 1}, 0), (0, {"a": 0}, {"o": 1}, 1), (1, {"b": 0}, {}, 0)]
        machine = Machine(["a", "b"], ["o"], 2, rows)
        self.assertEqual(closing(machine, 0, 1), ([], [2]))
        self.assertEqual(closing(machine, 1, 0), ([2], []))
        self.assertEqual(closings(machine), {(0, 1): ([], [2])})
        self.assertIs(is_alike(machine), True)
        gives_too = Machine(["a", "b"], ["o"], 2, [*rows[:2], (1, {"b": 0}, {"o": 1}, 0)])
        self.assertIsNone(closing(gives_too, 0, 1))

    def test_closings_of_many_reactions(self):
        machine = cross()
        self.assertEqual(closing(machine, 0, 1), ([2, 3], [4]))
        self.assertEqual(closing(machine, 1, 0), ([4], [2, 3]))
        rows = [(0, {"a": 0}, {}, 1), (1, {"b": 0}, {}, 2), (2, {"c": 0}, {"o": 0}, 3), (3, {"d": 0}, {"o": 1}, 4)]
        rows += [(0, {"d": 0}, {"o": 0}, 5), (5, {"c": 0}, {}, 6), (6, {"b": 0}, {"o": 1}, 7), (7, {"a": 0}, {}, 4)]
        long = Machine(list("abcd"), ["o"], 8, rows)
        # By their heads, a and d alone, they do not come to one standing.
        self.assertIsNone(closing(long, 0, 4))
        wide = Machine(list("abcd"), ["o"], 8, [*rows, (0, {"a": 0, "b": 0, "c": 0, "d": 0}, {"o": 0}, 0)])
        self.assertIsNone(closing(wide, 0, 8))
        rows.append((0, {"a": 0, "b": 0, "c": 0}, {"o": 0}, 3))
        rows.append((0, {"b": 0, "c": 0, "d": 0}, {"o": 0}, 7))
        rows[7] = (7, {"a": 0}, {"o": 1}, 4)
        wide = Machine(list("abcd"), ["o"], 8, rows)
        self.assertEqual(closing(wide, 0, 8), ([1, 2], []))
        self.assertEqual(closing(wide, 8, 9), ([3], [7]))
        self.assertEqual(closing(wide, 0, 9), ([1, 2, 3], [7]))

    def test_ends_that_are_unlike_in_standings_rests_or_flows_alone(self):
        base = [(0, {"a": 0}, {"o": 1}, 0), (0, {"b": 0}, {}, 0)]
        self.assertIs(is_alike(Machine(["a", "b"], ["o"], 2, base)), True)
        standings = [(0, {"a": 0}, {"o": 1}, 1), (0, {"b": 0}, {}, 0), (1, {"b": 0}, {}, 0)]
        rests = [*base[:1], (0, {"b": 0}, {}, 1), (1, {"b": 0}, {"o": 1}, 1)]
        flows = [*base[:1], (0, {"b": 0}, {"o": 2}, 0)]
        for rows, streams in ((standings, ONE_EACH), (rests, ONE_EACH), (flows, ONE_EACH)):
            machine = Machine(["a", "b"], ["o"], 2, rows)
            self.assertIsNone(closing(machine, 0, 1))
            self.assertIs(is_alike(machine), False)
            self.assertEqual(least_quarrel(machine), 2)
            told = quarrel(machine)
            self.assertEqual(told[0], streams)
            self.assertIs(is_quarrel(machine, told), True)
        # Both go on just the same for ever, and are unlike all the same.
        twins = Machine(["a"], [], 3, [(0, {"a": 0}, {}, 1), (0, {"a": 0}, {}, 2)])
        self.assertIs(is_alike(twins), False)
        # Both meet at one standing, with unlike rests alone.
        rows = [(0, {"a": 0, "b": 0}, {}, 1), (0, {"a": 0}, {}, 1)]
        self.assertIsNone(closing(Machine(["a", "b"], [], 2, rows), 0, 1))

    def test_it_is_by_heads_alone(self):
        # With one more worth on a both ways would meet.
        rows = [(0, {"a": 0}, {}, 1), (0, {"a": 0}, {}, 2), (1, {"a": 0}, {}, 3), (2, {"a": 0}, {}, 3)]
        machine = Machine(["a"], [], 4, rows)
        self.assertIsNone(closing(machine, 0, 1))
        self.assertIs(is_closing(machine, 0, 1, ([2], [3])), False)
        # The worth that is left must be the one of the heads.
        rows = [(0, {"a": 0}, {}, 1), (0, {"b": 1}, {}, 1), (1, {"b": 0}, {}, 1), (1, {"a": 0}, {}, 1)]
        machine = Machine(["a", "b"], [], 2, rows)
        self.assertIsNone(closing(machine, 0, 1))
        self.assertEqual(closing(machine + (1, {"b": 1}, {}, 1), 0, 1), ([4], [3]))

    def test_flows_are_sequences(self):
        rows = [(0, {"a": 0}, {"o": 1}, 0), (0, {"b": 0}, {"p": 1}, 0)]
        self.assertEqual(closing(Machine(["a", "b"], ["o", "p"], 1, rows), 0, 1), ([1], [0]))
        rows = [(0, {"a": 0}, {"o": 1}, 0), (0, {"b": 0}, {"o": 1}, 0)]
        self.assertEqual(closing(Machine(["a", "b"], ["o", "p"], 1, rows), 0, 1), ([1], [0]))
        rows = [(0, {"a": 0}, {"o": 1}, 0), (0, {"b": 0}, {"o": 2}, 0)]
        self.assertIsNone(closing(Machine(["a", "b"], ["o", "p"], 1, rows), 0, 1))

    def test_standings_that_are_not_reached(self):
        machine = cross()
        self.assertIsNone(closing(machine, 5, 6))
        self.assertIs(is_closing(machine, 5, 6, ([], [])), False)
        self.assertEqual(closings(machine), {(0, 1): ([2, 3], [4])})
        self.assertIs(is_alike(machine), True)
        self.assertIs(is_alike(machine + (2, {"b": 5}, {}, 4)), False)
        far = Machine(["a", "b"], [], 3, [(2, {"a": 0}, {}, 2), (2, {"b": 0}, {}, 2)])
        self.assertEqual(closing(far, 0, 1), ([1], [0]))
        self.assertEqual(closings(far), {})

    def test_against_all_runs_by_heads(self):
        rng = random.Random(31)
        closed = opened = 0
        for _ in range(150):
            machine = loose(rng)
            for one, other in itertools.permutations(range(len(machine)), 2):
                if not do_agree(machine, one, other):
                    continue
                both = {line: [worth] for line, worth in heads(machine, one, other).items()}
                mine, yours = runs_by_heads(machine, one, both), runs_by_heads(machine, other, both)
                right = [(run, more) for run, more in itertools.product(mine, yours) if mine[run] == yours[more]]
                told = closing(machine, one, other)
                if told is None:
                    self.assertEqual(right, [])
                    opened += 1
                else:
                    self.assertIn((tuple(told[0]), tuple(told[1])), right)
                    closed += 1
                for run, more in itertools.product(list(mine)[:8], list(yours)[:8]):
                    value = (list(run), list(more))
                    self.assertIs(is_closing(machine, one, other, value), (run, more) in right)
                    self.assertIs(is_closing(machine, one, other, (run, more)), (run, more) in right)
        self.assertGreater(min(closed, opened), 100)


class Refused(Case):
    def test_numbers(self):
        machine = free()
        for value in [*odd_values(), -1, 2, "0", [0], (0,), {}, 10**29]:
            for other in (0, 1, value, "wrong, too"):
                self.refused(InvalidNumber, {"value": value}, closing, machine, value, other)
                self.refused(InvalidNumber, {"value": value}, is_closing, machine, value, other, ([1], [0]))
            self.refused(InvalidNumber, {"value": value}, closing, machine, 0, value)
            self.refused(InvalidNumber, {"value": value}, is_closing, machine, 0, value, None)

    def test_not_agreeing(self):
        machine = race()
        for one, other in [(0, 0), (0, 2), (2, 1), (1, 1)]:
            self.refused(NotAgreeing, {"one": one, "other": other}, closing, machine, one, other)
            for value in (None, ([], []), ([1], [0])):
                self.refused(NotAgreeing, {"one": one, "other": other}, is_closing, machine, one, other, value)
        apart = Machine(["a"], [], 1, [(0, {"a": 0}, {}, 0), (0, {"a": 1}, {}, 0)])
        self.refused(NotAgreeing, {"one": 0, "other": 1}, closing, apart, 0, 1)

    def test_end(self):
        for value in wrong_streams():
            self.refused(InvalidStreams, {"value": value}, end, free(), value)
            self.refused(InvalidStreams, {"value": value}, end, race(), value)
        for streams in ({}, ONE_EACH, {"a": [5]}):
            self.refused(NotAlike, {"which": 0}, end, race(), streams)


class Alike(Case):
    def test_against_doing_everything(self):
        rng = random.Random(32)
        many = {True: 0, False: 0}
        for at in range(120):
            machine = loose(rng) if at % 6 else strict(rng)
            least = None
            for streams in sorted(small_streams(machine, 4), key=lambda each: sum(map(len, each.values()))):
                told = all_ends(machine, streams)
                if len(told) > 1:
                    least = sum(map(len, streams.values()))
                    break
                if is_alike(machine):
                    self.assertEqual({end(machine, streams)}, told)
            self.check(machine)
            many[is_alike(machine)] += 1
            if least is not None:
                self.assertEqual(least_quarrel(machine), least)
            elif not is_alike(machine):
                self.assertGreater(least_quarrel(machine), 4)
        self.assertGreater(min(many.values()), 30)

    def check(self, machine):
        """Either closings or a quarrel, and both are right."""
        told, shown = closings(machine), quarrel(machine)
        if is_alike(machine):
            self.assertIsNone(shown)
            self.assertIsNone(least_quarrel(machine))
            self.assertEqual(list(told), agreeing_by_hand(machine))
            for pair, inner in told.items():
                self.assertTrue(is_closing_by_hand(machine, *pair, inner))
                self.assertIs(is_closing(machine, *pair, inner), True)
            self.assertIs(are_closings(machine, told), True)
        else:
            self.assertIsNone(told)
            self.assertTrue(is_quarrel_by_hand(machine, shown))
            self.assertIs(is_quarrel(machine, shown), True)
            worths = sum(map(len, shown[0].values()))
            self.assertLessEqual(least_quarrel(machine), worths)
            self.assertLessEqual(worths, 60)

    def test_without_reactions(self):
        machine = Machine(["a"], [], 1, [])
        self.assertEqual([is_alike(machine), closings(machine), quarrel(machine)], [True, {}, None])
        self.assertEqual([least_quarrel(machine), end(machine, {"a": [3, 4]})], [None, (0, ((3, 4),), ())])
        self.assertIs(are_closings(machine, {}), True)
        self.assertIs(is_quarrel(machine, ({}, [], [])), False)

    def test_one_reaction_and_a_loop(self):
        machine = Machine(["a"], ["o"], 12, [(0, {"a": 9}, {"o": 0}, 11)])
        self.check(machine)
        self.assertEqual(end(machine, {"a": (9, 9)}), (11, ((9,),), ((0,),)))

    def test_forty_reactions(self):
        machine = Machine(list("abcd"), [], 1, forty())
        self.check(machine)
        self.assertEqual(len(closings(machine)), 600)
        self.assertEqual(closings(machine)[(9, 39)], ([39], [9]))
        # With gives of their own on one line no two of unlike lines close.
        rows = [(0, takes, {"o": number // 10}, 0) for number, (_, takes, _, _) in enumerate(forty())]
        machine = Machine(list("abcd"), ["o"], 1, rows)
        self.check(machine)
        self.assertEqual(least_quarrel(machine), 2)

    def test_all_takes_of_four_lines(self):
        subsets = [lines for many in range(1, 5) for lines in itertools.combinations("abcd", many)]
        rows = []
        for standing in range(2):
            for lines in subsets:
                gives = {line: 5 for line, by in zip("opq", "abc") if by in lines}
                rows.append((standing, {line: 0 for line in lines}, gives, 1 - standing if "d" in lines else standing))
        machine = Machine(list("abcd"), list("opq"), 2, rows)
        self.check(machine)
        self.assertEqual(len(closings(machine)), 210)
        self.check(machine - 29)
        self.check(machine - 0)
        self.assertIs(is_alike(machine - 0), False)

    def test_keys_of_closings_are_sorted(self):
        rows = [(1, {"a": 0}, {}, 1), (0, {"a": 1}, {}, 1), (0, {"a": 0}, {}, 0), (0, {"b": 0}, {}, 0)]
        rows += [(1, {"b": 0}, {}, 1), (1, {"b": 1}, {}, 1)]
        told = closings(Machine(["a", "b"], [], 2, rows))
        expected = [((0, 4), ([4], [0])), ((0, 5), ([5], [0])), ((1, 3), ([4], [1])), ((2, 3), ([3], [2]))]
        self.assertEqual(dict_order(told), expected)

    def test_twelve_standings_and_a_far_quarrel(self):
        rows = [(at, {line: 0 for line in "abcd"}, {}, at + 1) for at in range(11)]
        rows += [(11, {"a": 0, "b": 0}, {}, 11), (11, {"c": 0, "d": 0}, {}, 0)]
        machine = Machine(list("abcd"), [], 12, rows)
        self.assertEqual(least_quarrel(machine), 48)
        self.check(machine)
        cheap = machine + (3, {"a": 9}, {}, 11)
        self.assertEqual(least_quarrel(cheap), 17)
        self.check(cheap)

    def test_the_least_quarrel_is_not_that_of_the_fewest_reactions(self):
        rows = [(0, {"a": 0, "b": 0, "c": 0, "d": 0}, {}, 1), (0, {"a": 1}, {}, 2), (2, {"a": 1}, {}, 3)]
        rows += [(3, {"a": 1}, {}, 1), (1, {"a": 0}, {}, 0), (1, {"a": 0}, {}, 1)]
        machine = Machine(list("abcd"), [], 4, rows)
        self.assertEqual(least_quarrel(machine), 4)
        self.check(machine)
        # Heads of four worths at 0, or of one behind two.
        rows = [(0, {"a": 0, "b": 0}, {}, 0), (0, {"c": 0, "d": 0}, {}, 1), (0, {"a": 1, "b": 1}, {}, 2)]
        rows += [(2, {"a": 0}, {}, 2), (2, {"a": 0}, {}, 1)]
        machine = Machine(list("abcd"), [], 3, rows)
        self.assertEqual(least_quarrel(machine), 3)
        self.check(machine)

    def test_the_end_is_that_of_each_full_run(self):
        rng = random.Random(4)
        compared = 0
        for _ in range(150):
            machine = loose(rng)
            if not is_alike(machine):
                continue
            streams = {line: [rng.randint(0, 1) for _ in range(rng.randint(0, 3))] for line in machine.ins}
            for _, told in brute_full(machine, streams):
                self.assertEqual(end(machine, streams), told)
                compared += 1
        self.assertGreater(compared, 100)

    def test_long_streams(self):
        told = end(free(), {"a": [0] * 2000, "b": [0] * 1999 + [4]})
        self.assertEqual(told, (0, ((), (4,)), ((1,) * 2000,)))

    def test_doubled_machines_are_judged_by_their_standings(self):
        rng = random.Random(320)
        for _ in range(40):
            machine = doubled(rng, loose(rng))
            self.check(machine)
            for streams in small_streams(machine, 2):
                if len(all_ends(machine, streams)) > 1:
                    self.assertIs(is_alike(machine), False)


class Papers(Case):
    def test_closings_that_are_spoiled(self):
        rng = random.Random(33)
        machines = [free(), cross()] + [loose(rng) for _ in range(60)]
        wrong = right = 0
        for machine in machines:
            told = closings(machine)
            if told is None or len(told) > 4:
                continue
            for value in spoiled(told):
                expected = are_closings_by_hand(machine, value)
                self.assertIs(are_closings(machine, value), expected, (machine, value))
                wrong, right = wrong + (not expected), right + expected
            for (one, other), inner in told.items():
                for value in spoiled(inner):
                    expected = is_closing_by_hand(machine, one, other, value)
                    self.assertIs(is_closing(machine, one, other, value), expected)
        self.assertGreater(wrong, 500)
        self.assertGreater(right, 20)

    def test_no_closing(self):
        wrong = [*odd_values(), 0, "", "10", {}, [], (), [[1], [0]], ([1],), ([1], [0], []), ("1", "0"), (1, 0)]
        wrong += [([1], [1]), ([0], [1]), ([], []), ([1, 1], [0]), ([1], [0, 0]), ([True], [0]), ([1], [False])]
        wrong += [([1], None), (None, [0]), ({1: 1}, [0]), ([1], {0}), ([2], [0]), ([-1], [0]), ([1], [-2])]
        wrong += [([value], [0]) for value in odd_values()]
        for value in wrong:
            self.assertIs(is_closing(free(), 0, 1, value), False)
            self.assertIs(are_closings(free(), {(0, 1): value}), False)
        for value in [([1], [0]), ((1,), [0]), ((1,), (0,))]:
            self.assertIs(is_closing(free(), 0, 1, value), True)
            self.assertIs(are_closings(free(), {(0, 1): value}), True)

    def test_no_closings(self):
        good = ([1], [0])
        wrong = [*odd_values(), 0, "", [], (), {}, [((0, 1), good)], {(1, 0): good}, {(0, True): good}]
        wrong += [{(False, 1): good}, {(0, 1): good, (1, 0): ([0], [1])}, {(0, 1): good, (0, 0): good}, {"01": good}]
        wrong += [{0: good}, {(0, 1, 1): good}, {(0,): good}, {((0, 1),): good}, {None: good}, {Same(): good}]
        wrong += [{(0, 1): good, None: good}, {(0, Same()): good}, {(0, "1"): good}, {frozenset([0, 1]): good}]
        for value in wrong:
            self.assertIs(are_closings(free(), value), False)
        for value in [{}, {(0, 1): good}, None]:
            self.assertIs(are_closings(race(), value), False)
        two = {(0, 4): ([4], [0]), (2, 3): ([3], [2])}
        rows = [(1, {"a": 0}, {}, 1), (0, {"a": 1, "b": 1}, {}, 1), (0, {"a": 0}, {}, 0), (0, {"b": 0}, {}, 0)]
        machine = Machine(["a", "b"], [], 2, [*rows, (1, {"b": 0}, {}, 1)])
        self.assertIs(are_closings(machine, two), True)
        self.assertIs(are_closings(machine, {pair: two[pair] for pair in reversed(two)}), True)
        for pair in two:
            self.assertIs(are_closings(machine, {pair: two[pair]}), False)

    def test_closings_of_unreached_reactions_are_too_many(self):
        rows = [(0, {"a": 0}, {}, 0), (1, {"a": 0}, {}, 1), (1, {"b": 0}, {}, 1)]
        machine = Machine(["a", "b"], [], 2, rows)
        self.assertIs(is_closing(machine, 1, 2, ([2], [1])), True)
        self.assertIs(are_closings(machine, {(1, 2): ([2], [1])}), False)
        self.assertIs(are_closings(machine, {}), True)

    def test_quarrels_that_are_spoiled(self):
        rng = random.Random(34)
        machines = [race()] + [loose(rng) for _ in range(60)]
        wrong = right = 0
        for machine in machines:
            told = quarrel(machine)
            if told is None:
                continue
            for value in spoiled(told):
                expected = is_quarrel_by_hand(machine, value)
                self.assertIs(is_quarrel(machine, value), expected, (machine, value))
                wrong, right = wrong + (not expected), right + expected
        self.assertGreater(wrong, 500)
        self.assertGreater(right, 20)

    def test_no_quarrel(self):
        machine = race()
        good = (ONE_EACH, [0, 2], [1, 0])
        self.assertIs(is_quarrel(machine, ({"b": (0,), "a": (0,)}, (1, 0), (0, 2))), True)
        self.assertIs(is_quarrel(machine, ({"a": [0, 5], "b": [0, 7]}, [1, 0], [0, 2])), True)
        wrong = [*odd_values(), 0, "", {}, [], (), list(good), good[:2], (*good, []), (good,)]
        wrong += [(ONE_EACH, [0, 2], [0, 2]), (ONE_EACH, [0], [1, 0]), (ONE_EACH, [0, 2], [1]), (ONE_EACH, [], [])]
        wrong += [(ONE_EACH, [0, 1], [1, 0]), (ONE_EACH, [0, 2], [1, 0, 0]), (ONE_EACH, [False, 2], [1, 0])]
        wrong += [(ONE_EACH, [0, 2], [True, 0]), (ONE_EACH, None, [1, 0]), (ONE_EACH, [0, 2], None), (good, [], [])]
        wrong += [({"a": [0], "b": [0, 0]}, [0, 2], [1, 0]), ({"a": [0]}, [0, 2], [1, 0]), ({}, [], [])]
        wrong += [(ONE_EACH, [0, 2], "10"), (ONE_EACH, {0: 0, 2: 2}, [1, 0]), (ONE_EACH, [0, 3], [1, 0])]
        wrong += [(streams, [0, 2], [1, 0]) for streams in wrong_streams()]
        wrong += [(ONE_EACH, [0, value], [1, 0]) for value in odd_values()]
        for value in wrong:
            self.assertIs(is_quarrel(machine, value), False)
        self.assertIs(is_quarrel(free(), (ONE_EACH, [0, 1], [1, 0])), False)

    def test_quarrels_of_long_streams(self):
        machine = race()
        streams = {"a": [0], "b": [0] * 1999}
        value = (streams, [0] + [2] * 1999, [1] * 1999 + [0])
        self.assertIs(is_quarrel(machine, value), True)
        self.assertIs(is_quarrel(machine, (streams, value[1][:-1], value[2])), False)

    def test_ends_that_are_unlike_in_one_thing(self):
        twins = Machine(["a"], [], 3, [(0, {"a": 0}, {}, 1), (0, {"a": 0}, {}, 2)])
        self.assertIs(is_quarrel(twins, ({"a": [0]}, [0], [1])), True)
        rests = Machine(["a", "b"], [], 2, [(0, {"a": 0, "b": 0}, {}, 1), (0, {"a": 0}, {}, 1)])
        self.assertIs(is_quarrel(rests, ({"a": [0], "b": [0]}, [0], [1])), True)
        flows = Machine(["a"], ["o"], 1, [(0, {"a": 0}, {}, 0), (0, {"a": 0}, {"o": 0}, 0)])
        self.assertIs(is_quarrel(flows, ({"a": [0]}, [0], [1])), True)
        self.assertIs(is_quarrel(flows, ({"a": [0, 0]}, [0, 1], [1, 0])), False)


class Kept(Case):
    def test_what_is_passed_stays(self):
        streams = {"b": [0, 1], "a": (0, 0)}
        closed = {(0, 1): ([1], [0])}
        shown = ({"b": [0], "a": [0]}, [0, 2], [1, 0])
        kept = copy.deepcopy([streams, closed, shown])
        end(free(), streams)
        are_closings(free(), closed)
        is_closing(free(), 0, 1, closed[(0, 1)])
        is_quarrel(race(), shown)
        self.assertEqual([streams, closed, shown], kept)
        self.assertEqual([list(streams), list(shown[0])], [["b", "a"], ["b", "a"]])

    def test_what_is_told_is_new_also_inside(self):
        machine, other = free(), race()
        told = [closing(machine, 0, 1), closings(machine)[(0, 1)], quarrel(other)]
        kept = copy.deepcopy(told)
        told[0][0].append(5)
        told[1][1].clear()
        told[2][0]["a"].append(5)
        told[2][1].clear()
        closings(machine).clear()
        self.assertEqual([closing(machine, 0, 1), closings(machine)[(0, 1)], quarrel(other)], kept)
        self.assertEqual([machine, other], [free(), race()])

    def test_kinds_of_what_is_told(self):
        told = closing(free(), 0, 1)
        self.assertEqual([type(told), type(told[0]), type(told[1])], [tuple, list, list])
        self.assertEqual([type(closings(free())), type(is_alike(free()))], [dict, bool])
        streams, one, other = quarrel(race())
        self.assertEqual([type(quarrel(race())), type(streams), type(one), type(other)], [tuple, dict, list, list])
        self.assertEqual([list(streams), type(streams["a"]), type(least_quarrel(race()))], [["a", "b"], list, int])
        value = end(free(), {"a": [0, 1]})
        for part in (value, value[1], value[1][0], value[2], value[2][0]):
            self.assertIs(type(part), tuple)


if __name__ == "__main__":
    unittest.main()
