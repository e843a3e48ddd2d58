"""Streams and runs: what can be done, all full runs, arrivals."""

import copy
import random
import unittest

from loosebeats import runs
from loosebeats.errors import (
    InvalidArrivals,
    InvalidCount,
    InvalidRule,
    InvalidRun,
    InvalidStanding,
    InvalidStreams,
    NoSuch,
    TooMany,
)
from loosebeats.machines import Machine
from loosebeats.runs import (
    can_be_done,
    eager,
    ends,
    fewest,
    full_at,
    is_full,
    many_full,
    most,
    run_end,
    run_to,
    shortest,
    stands_at,
    taken,
)
from samples import (
    Case,
    all_runs_up_to,
    brute_full,
    chooser,
    dict_order,
    forty,
    free,
    made_up,
    odd_values,
    race,
    wrong_streams,
)

ONE_EACH = {"a": [0], "b": [0]}

PARAMETERS = {
    "can_be_done": ["machine", "standing", "streams"],
    "run_end": ["machine", "streams", "run"],
    "is_full": ["machine", "streams", "run"],
    "taken": ["machine", "run"],
    "stands_at": ["machine", "run"],
    "many_full": ["machine", "streams"],
    "full_at": ["machine", "streams", "place"],
    "fewest": ["machine", "streams"],
    "most": ["machine", "streams"],
    "shortest": ["machine", "streams"],
    "ends": ["machine", "streams"],
    "run_to": ["machine", "streams", "end"],
    "eager": ["machine", "arrivals", "rule"],
}

# Each function that looks at all full runs, with what stands behind machine and streams.
SEARCHES = [
    (many_full, []),
    (full_at, [0]),
    (fewest, []),
    (most, []),
    (shortest, []),
    (ends, []),
    (run_to, [(0, ((), ()), ((),))]),
]


class Interface(Case):
    def test_what_is_listed_is_defined_there_with_its_names(self):
        self.listed(runs, PARAMETERS)

    def test_examples(self):
        self.assertEqual(
            [many_full(race(), ONE_EACH), ends(race(), ONE_EACH)],
            [2, [(1, ((), ()), ((0,),)), (1, ((), ()), ((1,),))]],
        )
        self.assertEqual(
            [run_end(race(), {"b": [0, 0]}, [1]), taken(race(), [1, 0, 2])],
            [(0, ((), (0,)), ((0,),)), {"a": [0], "b": [0, 0]}],
        )
        self.assertEqual(
            [eager(race(), [("b", 0), ("a", 0)], [0, 1, 2]), shortest(free(), {"a": [0], "b": [0, 1]})],
            [(1, ((), ()), ((0,),)), [0, 1]],
        )

    def test_arguments_by_name(self):
        machine, end = race(), (1, ((), ()), ((0,),))
        self.assertEqual(can_be_done(streams=ONE_EACH, standing=0, machine=machine), [0, 1])
        self.assertEqual(run_end(run=[1, 0], streams=ONE_EACH, machine=machine), end)
        self.assertIs(is_full(run=[1, 0], streams=ONE_EACH, machine=machine), True)
        self.assertEqual([taken(run=[1], machine=machine), stands_at(run=[1], machine=machine)], [{"b": [0]}, 0])
        self.assertEqual(full_at(place=1, streams=ONE_EACH, machine=machine), [1, 0])
        for function, told in ((many_full, 2), (fewest, 2), (most, 2), (shortest, [0, 2])):
            self.assertEqual(function(streams=ONE_EACH, machine=machine), told)
        self.assertEqual(len(ends(streams=ONE_EACH, machine=machine)), 2)
        self.assertEqual(run_to(end=end, streams=ONE_EACH, machine=machine), [1, 0])
        self.assertEqual(eager(rule=[0, 1, 2], arrivals=[], machine=machine), (0, ((), ()), ((),)))


class Done(Case):
    def test_can_be_done(self):
        machine = race()
        self.assertEqual(can_be_done(machine, 0, ONE_EACH), [0, 1])
        self.assertEqual(can_be_done(machine, 1, ONE_EACH), [2])
        self.assertEqual(can_be_done(machine, 0, {}), [])
        self.assertEqual(can_be_done(machine, 0, {"a": [], "b": ()}), [])
        self.assertEqual(can_be_done(machine, 0, {"a": [1, 0], "b": [0, 1]}), [1])
        rows = [(0, {"a": 0, "b": 9}, {}, 0), (0, {"b": 9}, {}, 0), (2, {"a": 0}, {}, 0), (0, {"a": 0}, {}, 0)]
        wide = Machine(["a", "b"], [], 3, rows)
        self.assertEqual(can_be_done(wide, 0, {"b": (9,), "a": (0,)}), [0, 1, 3])
        self.assertEqual(can_be_done(wide, 0, {"a": [0]}), [3])
        self.assertEqual(can_be_done(wide, 2, {"a": [0]}), [2])
        self.assertEqual(can_be_done(wide, 1, {"a": [0]}), [])
        many = Machine(list("abcd"), [], 1, forty())
        self.assertEqual(can_be_done(many, 0, {"a": [9], "b": [0], "c": [5, 1], "d": [9]}), [9, 10, 25, 39])

    def test_run_end(self):
        machine = race()
        self.assertEqual(run_end(machine, {}, []), (0, ((), ()), ((),)))
        self.assertEqual(run_end(machine, {"b": (4, 5)}, ()), (0, ((), (4, 5)), ((),)))
        streams = {"b": [0, 0, 0, 9], "a": [0, 0]}
        self.assertEqual(run_end(machine, streams, [1, 0, 2, 2]), (1, ((0,), (9,)), ((0, 1, 1),)))
        self.assertEqual(run_end(machine, streams, (1, 1)), (0, ((0, 0), (0, 9)), ((0, 0),)))
        no_outs = Machine(["a"], [], 1, [(0, {"a": 9}, {}, 0)])
        self.assertEqual(run_end(no_outs, {"a": [9, 9, 0]}, [0, 0]), (0, ((0,),), ()))
        both = Machine(["a", "b"], ["o", "p"], 2, [(0, {"b": 1, "a": 0}, {"p": 9, "o": 8}, 1)])
        self.assertEqual(run_end(both, {"a": [0, 7], "b": [1]}, [0]), (1, ((7,), ()), ((8,), (9,))))

    def test_run_end_of_a_long_run(self):
        machine = Machine(["a"], ["o"], 1, [(0, {"a": 0}, {"o": 1}, 0)])
        self.assertEqual(run_end(machine, {"a": [0] * 2000}, [0] * 1999), (0, ((0,),), ((1,) * 1999,)))

    def test_a_run_is_one_of_streams_that_go_on(self):
        rng = random.Random(22)
        for _ in range(100):
            machine, streams = made_up(rng)
            further = {line: [*streams.get(line, []), rng.randint(0, 9)] for line in machine.ins}
            for run, end in brute_full(machine, streams)[:5]:
                self.assertEqual(run_end(machine, further, run)[2], end[2])
                self.assertLessEqual(len(run), sum(len(stream) for stream in streams.values()))

    def test_is_full(self):
        machine = race()
        self.assertIs(is_full(machine, {}, []), True)
        self.assertIs(is_full(machine, ONE_EACH, []), False)
        self.assertIs(is_full(machine, ONE_EACH, [0]), False)
        self.assertIs(is_full(machine, ONE_EACH, [0, 2]), True)
        self.assertIs(is_full(machine, {"a": [0, 0], "b": [1]}, [0]), True)
        self.assertIs(is_full(Machine(["a"], [], 1, []), {"a": [0]}, ()), True)

    def test_taken_and_stands_at(self):
        machine = race()
        self.assertEqual([taken(machine, []), stands_at(machine, ())], [{}, 0])
        self.assertEqual([taken(machine, [0]), stands_at(machine, [0])], [{"a": [0]}, 1])
        self.assertEqual([taken(machine, (1, 1)), stands_at(machine, (1, 1))], [{"b": [0, 0]}, 0])
        rows = [(0, {"c": 1}, {}, 1), (1, {"a": 2, "b": 3}, {}, 2), (2, {"c": 4, "a": 5}, {}, 0)]
        machine = Machine(["b", "a", "c"], [], 3, rows)
        told = taken(machine, [0, 1, 2, 0])
        self.assertEqual(dict_order(told), [("b", [3]), ("a", [2, 5]), ("c", [1, 4, 1])])
        self.assertEqual([stands_at(machine, [0, 1]), stands_at(machine, [0, 1, 2, 0])], [2, 1])
        self.assertEqual(dict_order(taken(machine, [0])), [("c", [1])])

    def test_a_run_takes_just_what_it_needs(self):
        rng = random.Random(21)
        for _ in range(30):
            machine, _ = made_up(rng)
            for run in all_runs_up_to(machine, 2):
                try:
                    streams = taken(machine, run)
                except InvalidRun:
                    continue
                standing, rests, _ = run_end(machine, streams, run)
                self.assertEqual(standing, stands_at(machine, run))
                self.assertEqual(rests, tuple(() for _ in machine.ins))
                self.assertNotIn([], list(streams.values()))


class Refused(Case):
    def test_standing(self):
        for value in [*odd_values(), -1, 2, "0", [0], (0,), {}, 10**29]:
            self.refused(InvalidStanding, {"value": value}, can_be_done, race(), value, {})
            self.refused(InvalidStanding, {"value": value}, can_be_done, race(), value, "wrong, too")

    def test_streams(self):
        machine = race()
        for value in wrong_streams():
            self.refused(InvalidStreams, {"value": value}, can_be_done, machine, 0, value)
            for run in ([], [7], None):
                self.refused(InvalidStreams, {"value": value}, run_end, machine, value, run)
                self.refused(InvalidStreams, {"value": value}, is_full, machine, value, run)
            for function, rest in SEARCHES:
                self.refused(InvalidStreams, {"value": value}, function, machine, value, *rest)
            self.refused(InvalidStreams, {"value": value}, full_at, machine, value, -1)

    def test_streams_are_looked_at_ahead_of_their_number(self):
        for function, rest in SEARCHES:
            value = {"a": [0] * 16, "b": [0, 10]}
            self.refused(InvalidStreams, {"value": value}, function, race(), value, *rest)

    def test_run_no_list(self):
        for value in [*odd_values(), 0, "", "0", {}, {0: 0}]:
            for function in (run_end, is_full):
                self.refused(InvalidRun, {"position": None}, function, race(), ONE_EACH, value)
            for function in (taken, stands_at):
                self.refused(InvalidRun, {"position": None}, function, race(), value)

    def test_run_with_a_wrong_number(self):
        for value in [*odd_values(), -1, 3, "0", [0], (0,), {}, 10**29, 2]:
            for run, position in (([value, None], 0), ((1, value), 1), ([1, 1, value, 7], 2)):
                for function in (run_end, is_full):
                    self.refused(InvalidRun, {"position": position}, function, race(), {"b": [0, 0, 0]}, run)
                for function in (taken, stands_at):
                    self.refused(InvalidRun, {"position": position}, function, race(), run)

    def test_run_with_what_cannot_be_done_there(self):
        for function in (run_end, is_full):
            self.refused(InvalidRun, {"position": 1}, function, race(), ONE_EACH, [0, 1])
            self.refused(InvalidRun, {"position": 1}, function, race(), {"a": [0]}, [0, 2])
            self.refused(InvalidRun, {"position": 0}, function, race(), {"a": [1, 0]}, [0])
            self.refused(InvalidRun, {"position": 2}, function, race(), {"b": [0, 0, 1]}, [1, 1, 1])
        for function in (taken, stands_at):
            self.refused(InvalidRun, {"position": 1}, function, race(), [0, 1])
            self.refused(InvalidRun, {"position": 0}, function, race(), [2, 9])

    def test_place(self):
        for value in [*odd_values(), -1, -(10**20), "0", [0], (0,), {}]:
            self.refused(InvalidCount, {"value": value}, full_at, race(), ONE_EACH, value)
            self.refused(TooMany, {"what": "worths", "limit": 16}, full_at, race(), {"a": [0] * 17}, value)
        self.refused(NoSuch, {"value": 2}, full_at, race(), ONE_EACH, 2)
        self.refused(NoSuch, {"value": 10**29}, full_at, race(), ONE_EACH, 10**29)
        self.refused(NoSuch, {"value": 1}, full_at, race(), {}, 1)

    def test_arrivals(self):
        for value in [*odd_values(), 0, "", "ab", {}, {"a": 0}]:
            self.refused(InvalidArrivals, {"position": None}, eager, race(), value, [0, 1, 2])
            self.refused(InvalidArrivals, {"position": None}, eager, race(), value, None)
        wrong = [*odd_values(), 0, "a0", [], (), ["a", 0], ("a",), ("a", 0, 0), {"a": 0}, (0, "a")]
        wrong += [(line, 0) for line in [*odd_values(), "o", "c", "", 0, ["a"], ("a",)]]
        wrong += [("a", worth) for worth in [*odd_values(), -1, 10, "0", [0], (0,)]]
        for value in wrong:
            self.refused(InvalidArrivals, {"position": 0}, eager, race(), [value, None], [0, 1, 2])
            self.refused(InvalidArrivals, {"position": 1}, eager, race(), (("a", 9), value), [0, 1, 2])
            self.refused(InvalidArrivals, {"position": 1}, eager, race(), [("a", 9), value], "wrong, too")

    def test_rule(self):
        wrong = [*odd_values(), 0, "012", {}, {0: 0, 1: 1, 2: 2}, [], [0, 1], [0, 1, 2, 2], [0, 1, 1], [0, 1, 3]]
        wrong += [[0, value, 2] for value in [*odd_values(), "1", [1], (1,)]]
        wrong += [[False, 1, 2], (0, True, 2), [0, 1, 2, 3], [-1, 0, 1]]
        for value in wrong:
            self.refused(InvalidRule, {"value": value}, eager, race(), [("a", 0)], value)
        self.refused(InvalidRule, {"value": [0]}, eager, Machine(["a"], [], 1, []), [], [0])


class Searched(Case):
    def compare(self, machine, streams):
        all_full = brute_full(machine, streams)
        found = [run for run, _ in all_full]
        lengths = [len(run) for run in found]
        self.assertEqual(many_full(machine, streams), len(found))
        for place in range(0, len(found), max(1, len(found) // 10)):
            self.assertEqual(full_at(machine, streams, place), found[place])
        self.assertEqual(full_at(machine, streams, len(found) - 1), found[-1])
        self.refused(NoSuch, {"value": len(found)}, full_at, machine, streams, len(found))
        self.assertEqual([fewest(machine, streams), most(machine, streams)], [min(lengths), max(lengths)])
        self.assertEqual(shortest(machine, streams), min(found, key=lambda run: (len(run), run)))
        all_ends = sorted({end for _, end in all_full})
        if len(all_ends) > 200:
            self.refused(TooMany, {"what": "ends", "limit": 200}, ends, machine, streams)
        else:
            self.assertEqual(ends(machine, streams), all_ends)
        for end in all_ends[:: max(1, len(all_ends) // 10)]:
            first = min(run for run, other in all_full if other == end)
            self.assertEqual(run_to(machine, streams, end), first)
            self.assertIs(is_full(machine, streams, first), True)
            self.assertEqual(run_end(machine, streams, first), end)
        return all_ends

    def test_against_doing_everything(self):
        rng = random.Random(11)
        more = 0
        for _ in range(600):
            machine, streams = made_up(rng)
            more += len(self.compare(machine, streams)) > 1
        self.assertGreater(more, 50)

    def test_without_streams_or_reactions(self):
        end = (0, ((), ()), ((),))
        for machine, streams in ((race(), {}), (race(), {"a": []}), (race(), {"a": (), "b": []})):
            self.assertEqual(self.compare(machine, streams), [end])
            self.assertEqual([full_at(machine, streams, 0), shortest(machine, streams)], [[], []])
            self.assertEqual(run_to(machine, streams, end), [])
        self.assertEqual(self.compare(Machine(["a"], [], 1, []), {"a": [9, 0]}), [(0, ((9, 0),), ())])

    def test_sixteen_and_seventeen_worths(self):
        machine = free()
        most_of_all = [{"a": [0] * 16}, {"b": [0] * 16}, {"a": [0] * 8, "b": [0] * 8}, {"a": (1,) * 15, "b": (0,)}]
        for streams, many in zip(most_of_all, [1, 1, 12870, 1]):
            self.assertEqual(many_full(machine, streams), many)
            for function, rest in SEARCHES:
                function(machine, streams, *rest)
        for streams in ({"a": [0] * 17}, {"a": [0] * 8, "b": [0] * 9}, {"a": (1,) * 1000, "b": (1,) * 1000}):
            for function, rest in SEARCHES:
                self.refused(TooMany, {"what": "worths", "limit": 16}, function, machine, streams, *rest)
            self.refused(TooMany, {"what": "worths"}, run_to, machine, streams, None)
            # The other functions have no such limit.
            self.assertIs(is_full(machine, streams, []), streams["a"][0] == 1)

    def test_very_many_full_runs(self):
        gives = [{line: 1 for line, bit in zip("opq", (4, 2, 1)) if k & bit} for k in range(8)]
        rows = [(0, {line: 0}, give, 0) for line in "abcd" for give in gives]
        machine = Machine(list("abcd"), list("opq"), 1, rows)
        streams = {line: [0] * 4 for line in "abcd"}
        many = 63063000 * 8**16
        self.assertEqual(many_full(machine, streams), many)
        self.assertEqual(full_at(machine, streams, 0), [0] * 4 + [8] * 4 + [16] * 4 + [24] * 4)
        self.assertEqual(full_at(machine, streams, many - 1), [31] * 4 + [23] * 4 + [15] * 4 + [7] * 4)
        self.refused(NoSuch, {"value": many}, full_at, machine, streams, many)
        self.refused(TooMany, {"what": "ends", "limit": 200}, ends, machine, streams)
        rests = ((),) * 4
        all_given = (0, rests, ((1,) * 16,) * 3)
        self.assertEqual(run_to(machine, streams, all_given), [7] * 4 + [15] * 4 + [23] * 4 + [31] * 4)
        self.assertEqual(run_to(machine, streams, (0, rests, ((1,), (), (1,) * 2)))[-2:], [25, 29])
        self.assertIsNone(run_to(machine, streams, (0, rests, ((1,) * 16, (1,) * 15 + (2,), (1,) * 16))))

    def test_the_fewest_and_the_most(self):
        rows = [(0, {"a": 0}, {}, 0), (0, {"b": 0}, {}, 0), (0, {"a": 0, "b": 0}, {"o": 0}, 0), (0, {"b": 0}, {}, 1)]
        machine = Machine(["a", "b"], ["o"], 2, rows)
        streams = {"a": [0, 0], "b": [0, 0]}
        self.compare(machine, streams)
        self.assertEqual([fewest(machine, streams), most(machine, streams)], [1, 4])
        self.assertEqual(shortest(machine, streams), [3])
        self.assertEqual(shortest(machine - 3, streams), [2, 2])

    def test_two_hundred_ends_and_one_more(self):
        rows = [(0, {"a": 0}, {"o": k}, 1) for k in range(10)]
        rows += [(1, {"a": 0}, {line: k}, 2) for line in "pq" for k in range(10)]
        machine = Machine(["a"], ["o", "p", "q"], 4, rows)
        streams = {"a": [0, 0]}
        found = ends(machine, streams)
        self.assertEqual(len(found), 200)
        self.assertEqual(found, sorted({end for _, end in brute_full(machine, streams)}))
        one_more = machine + (0, {"a": 0}, {}, 3)
        self.refused(TooMany, {"what": "ends", "limit": 200}, ends, one_more, streams)
        self.assertEqual(run_to(one_more, streams, (3, ((0,),), ((), (), ()))), [30])
        same_flows = machine + (1, {"a": 0}, {"p": 0}, 1)
        self.refused(TooMany, {"what": "ends", "limit": 200}, ends, same_flows, streams)

    def test_too_many_ends_at_one_place(self):
        machine = chooser([{"o": k} for k in range(6)] + [{}])
        self.compare(machine, {"a": [0, 0]})
        self.refused(TooMany, {"what": "ends", "limit": 200}, ends, machine, {"a": [0, 0, 0]})
        self.refused(TooMany, {"what": "ends", "limit": 200}, ends, machine, {"a": [0] * 16})
        self.assertEqual(run_to(machine, {"a": [0] * 16}, (0, ((),), ((5, 4, 3),))), [5, 4, 3] + [6] * 13)

    def test_run_to_no_such_end(self):
        machine, end = race(), (1, ((), ()), ((0,),))
        self.assertEqual(run_to(machine, ONE_EACH, end), [1, 0])
        wrong = [*odd_values(), 0, "end", [], (), {}, list(end), end[:2], (*end, ())]
        wrong += [(standing, *end[1:]) for standing in [*odd_values(), "1", -1, 0, 2, (1,), [1]]]
        wrong += [(1, rests, end[2]) for rests in [*odd_values(), 0, [(), ()], ([], []), ((),), ((), (), ())]]
        wrong += [(1, rests, end[2]) for rests in [((0,), ()), ((), (0,)), ((), (0, 0)), ((), (None,)), ((), 0)]]
        wrong += [(1, end[1], flows) for flows in [*odd_values(), 0, [(0,)], ([0],), (), ((0,), ()), (0,)]]
        flows = [(), (1, 0), (0, 0), (2,), (False,), (None,), (10,), ((0,),), "0", [0]]
        wrong += [(1, end[1], (flow,)) for flow in flows]
        wrong += [(1, end[1], ((0,) * 2000,)), (0, ((0,), (0,)), ((),)), (1, ((), (0,)), ((),))]
        for value in wrong:
            self.assertIsNone(run_to(machine, ONE_EACH, value))

    def test_run_to_flows_that_are_far_too_long(self):
        machine = Machine(["a"], ["o", "p", "q"], 1, [(0, {"a": 0}, {"o": 1, "p": 1, "q": 1}, 0)])
        self.assertIsNone(run_to(machine, {"a": [0] * 16}, (0, ((),), ((1,) * 2000,) * 3)))
        self.assertIsNone(run_to(machine, {"a": [0] * 16}, (0, ((),), ((1,) * 17,) * 3)))
        self.assertEqual(run_to(machine, {"a": [0] * 16}, (0, ((),), ((1,) * 16,) * 3)), [0] * 16)

    def test_run_to_looks_at_the_rests(self):
        machine = Machine(["a"], [], 1, [(0, {"a": 0}, {}, 0)])
        self.assertEqual(run_to(machine, {"a": [0, 1, 2]}, (0, ((1, 2),), ())), [0])
        for rest in ((2, 1), (1, 1), (0, 1, 2), (2,), (), (1, 2, 3, 4)):
            self.assertIsNone(run_to(machine, {"a": [0, 1, 2]}, (0, (rest,), ())))

    def test_worths_zero_and_nine(self):
        machine = Machine(["a"], ["o"], 1, [(0, {"a": 9}, {"o": 0}, 0), (0, {"a": 0}, {"o": 9}, 0)])
        self.assertEqual(ends(machine, {"a": [9, 0, 9, 8]}), [(0, ((8,),), ((0, 9, 0),))])


class Eager(Case):
    def by_hand(self, machine, arrivals, rule):
        streams, run = {}, []
        for line, worth in arrivals:
            streams.setdefault(line, []).append(worth)
            while True:
                standing, rests, _ = run_end(machine, streams, run)
                able = can_be_done(machine, standing, dict(zip(machine.ins, rests)))
                if not able:
                    break
                run.append(min(able, key=rule.index))
        return run_end(machine, streams, run)

    def test_against_doing_it_by_hand(self):
        rng = random.Random(23)
        for _ in range(200):
            machine, _ = made_up(rng)
            arrivals = [(rng.choice(machine.ins), rng.randint(0, 1)) for _ in range(rng.randint(0, 8))]
            rule = rng.sample(range(len(machine)), len(machine))
            told = self.by_hand(machine, arrivals, rule)
            self.assertEqual(eager(machine, arrivals, rule), told)
            self.assertEqual(eager(machine, tuple(arrivals), tuple(rule)), told)

    def test_the_sequence_of_arrivals_tells(self):
        self.assertEqual(eager(race(), [("a", 0), ("b", 0)], [0, 1, 2]), (1, ((), ()), ((1,),)))
        self.assertEqual(eager(race(), [("b", 0), ("a", 0)], [2, 0, 1]), (1, ((), ()), ((0,),)))

    def test_the_rule_tells(self):
        rows = [(0, {"a": 0}, {"o": 0}, 0), (0, {"a": 0}, {"o": 1}, 0), (0, {"a": 0, "b": 0}, {"o": 2}, 0)]
        machine = Machine(["a", "b"], ["o"], 1, rows)
        arrivals = [("b", 0), ("a", 0), ("a", 0)]
        self.assertEqual(eager(machine, arrivals, [0, 1, 2]), (0, ((), (0,)), ((0, 0),)))
        self.assertEqual(eager(machine, arrivals, [1, 2, 0]), (0, ((), (0,)), ((1, 1),)))
        self.assertEqual(eager(machine, arrivals, [2, 1, 0]), (0, ((), ()), ((2, 1),)))

    def test_several_are_done_behind_one_arrival(self):
        rows = [(0, {"a": 1}, {}, 1), (1, {"b": 0}, {"o": 3}, 1)]
        machine = Machine(["a", "b"], ["o"], 2, rows)
        arrivals = [("b", 0), ("b", 0), ("b", 5), ("a", 1)]
        self.assertEqual(eager(machine, arrivals, [0, 1]), (1, ((), (5,)), ((3, 3),)))

    def test_without_arrivals_or_reactions(self):
        self.assertEqual(eager(race(), [], [2, 1, 0]), (0, ((), ()), ((),)))
        self.assertEqual(eager(race(), (), (2, 1, 0)), (0, ((), ()), ((),)))
        self.assertEqual(eager(Machine(["a"], [], 1, []), [("a", 9), ("a", 0)], []), (0, ((9, 0),), ()))

    def test_many_arrivals(self):
        machine = Machine(["a"], ["o"], 1, [(0, {"a": 0}, {"o": 1}, 0)])
        self.assertEqual(eager(machine, [("a", 0)] * 2000, [0]), (0, ((),), ((1,) * 2000,)))


class Kept(unittest.TestCase):
    def test_what_is_passed_stays(self):
        machine = race()
        streams, run, arrivals, rule = {"b": [0, 1], "a": (0, 0)}, [1, 0], [("b", 0), ("a", 0)], [2, 0, 1]
        kept = copy.deepcopy([streams, run, arrivals, rule])
        order = list(streams)
        can_be_done(machine, 0, streams)
        run_end(machine, streams, run)
        is_full(machine, streams, run)
        taken(machine, run)
        stands_at(machine, run)
        for function, rest in SEARCHES:
            function(machine, streams, *rest)
        eager(machine, arrivals, rule)
        self.assertEqual([streams, run, arrivals, rule], kept)
        self.assertEqual(list(streams), order)
        self.assertEqual(machine, race())

    def test_what_is_told_is_new_also_inside(self):
        machine = race()
        streams, end = {"b": [0], "a": [0]}, (1, ((), ()), ((0,),))

        def told():
            return [
                can_be_done(machine, 0, streams),
                taken(machine, [1, 0]),
                full_at(machine, streams, 0),
                shortest(machine, streams),
                ends(machine, streams),
                run_to(machine, streams, end),
            ]

        first = told()
        kept = copy.deepcopy(first)
        for value in first:
            for inner in value.values() if isinstance(value, dict) else []:
                inner.append(5)
            value.clear()
        self.assertEqual(told(), kept)
        self.assertEqual([streams, machine], [{"b": [0], "a": [0]}, race()])

    def test_kinds_of_what_is_told(self):
        machine = race()
        for function in (can_be_done,):
            self.assertIs(type(function(machine, 0, ONE_EACH)), list)
        end = run_end(machine, {"a": [0, 1], "b": [0]}, [0, 2])
        for value in (end, end[1], end[1][0], end[2], end[2][0], eager(machine, [("a", 1)], [0, 1, 2])[1][0]):
            self.assertIs(type(value), tuple)
        self.assertIs(type(ends(machine, ONE_EACH)), list)
        for value in ends(machine, ONE_EACH):
            self.assertEqual([type(value), type(value[1]), type(value[2][0])], [tuple, tuple, tuple])
        for function in (many_full, fewest, most):
            self.assertIs(type(function(machine, ONE_EACH)), int)
        self.assertIs(type(taken(machine, (1,))["b"]), list)

    def test_the_order_of_keys_has_no_effect(self):
        machine = race()
        one, other = {"a": [0], "b": [0, 1]}, {"b": [0, 1], "a": [0]}
        for function, rest in SEARCHES:
            self.assertEqual(function(machine, one, *rest), function(machine, other, *rest))
        self.assertEqual(run_end(machine, one, [0]), run_end(machine, other, [0]))


if __name__ == "__main__":
    unittest.main()
