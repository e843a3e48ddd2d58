"""Pairs, their runs and ends, sizes of stores that are enough, standstills, machines with rooms."""

import copy
import itertools
import random
import time
import unittest

from loosebeats import stores
from loosebeats.alike import is_alike
from loosebeats.errors import (
    InvalidRooms,
    InvalidRun,
    InvalidSizes,
    InvalidStreams,
    NoStore,
    NotAlike,
    SharedLine,
    TooMany,
)
from loosebeats.machines import Machine
from loosebeats.stores import (
    Pair,
    always_least,
    are_always_enough,
    are_enough,
    is_standstill,
    least_sizes,
    pair_end,
    pair_ends,
    pair_run_end,
    standstill,
    with_rooms,
)
from samples import (
    Case,
    Same,
    Table,
    are_strict,
    chooser,
    dict_order,
    free,
    odd_values,
    pair_tables,
    pair_walk,
    part,
    race,
    small_streams,
    some_pair,
    spoiled,
    wrong_streams,
)

PARAMETERS = {
    "pair_run_end": ["pair", "streams", "run", "sizes"],
    "pair_end": ["pair", "streams"],
    "pair_ends": ["pair", "streams", "sizes"],
    "are_enough": ["pair", "streams", "sizes"],
    "least_sizes": ["pair", "streams"],
    "are_always_enough": ["pair", "sizes"],
    "standstill": ["pair", "sizes"],
    "is_standstill": ["pair", "sizes", "value"],
    "always_least": ["pair"],
    "with_rooms": ["machine", "rooms"],
}

SIZES = (1, 2, 3)


def late():
    return Machine(["o"], ["p"], 1, [(0, {"o": 1}, {"p": 3}, 0)])


def easy():
    return Pair(free(), late())


def slow():
    return Pair(free(), Machine(["o", "c"], [], 1, [(0, {"c": 0, "o": 1}, {}, 0)]))


def crossed():
    """Two stores: the first gives many on one, then one on the other, which is taken first."""
    first = Machine(["a"], ["o", "p"], 1, [(0, {"a": 0}, {"o": 0}, 0), (0, {"a": 1}, {"p": 0}, 0)])
    second = Machine(["p", "o"], ["y"], 2, [(0, {"p": 0}, {}, 1), (1, {"o": 0}, {"y": 7}, 1), (1, {"p": 0}, {}, 0)])
    return Pair(first, second)


def given(worths):
    """A first machine that gives any of these worths for each 0, and a second one that takes none."""
    return Pair(chooser([{"o": worth} for worth in worths]), Machine(["o"], [], 1, []))


def stepping(many):
    """A second machine that takes nothing from the store o, and steps through so many standings."""
    return Machine(["o", "c"], [], many, [(k, {"c": 0}, {}, k + 1) for k in range(many - 1)])


def either(many):
    """A first machine that gives so many worths on o or on p, as it comes, and a second one that takes none."""
    rows = [(k, {"a": 0}, {line: 0}, k + 1) for k in range(many) for line in "op"]
    return Pair(Machine(["a"], ["o", "p"], many + 1, rows), Machine(["p", "o"], [], 1, []))


def nearly_beside(rng):
    """Two machines beside each other that take from o and from p, with some reactions changed, added or left out."""
    one = part(rng, ["o", "c"][: rng.randint(1, 2)], ["y"][: rng.randint(0, 1)], 2, 3, 0.5)
    other = part(rng, ["p"], ["z"][: rng.randint(0, 1)], 2, 3, 0.5)
    both = one | other
    rows = both.reactions()
    for _ in range(rng.randint(0, 3)):
        if rows and rng.random() < 0.5:
            rows.pop(rng.randrange(len(rows)))
        elif rows:
            _, takes, gives, _ = rng.choice(rows)
            row = (rng.randrange(both.standings), takes, gives, rng.randrange(both.standings))
            rows += [row] * (row not in rows)
    if both.outs == ["y", "z"] and rng.random() < 0.4:
        # Both give on one line: there it matters which comes first.
        rows = [(at, takes, {"y": w for w in gives.values()}, to) for at, takes, gives, to in rows]
        rows = [row for k, row in enumerate(rows) if row not in rows[:k]]
    return Machine(both.ins, both.outs, both.standings, rows)


def all_bounds(pair, sizes=SIZES):
    return list(itertools.product(sizes, repeat=len(pair.stores)))


def ends_by_hand(pair, streams, sizes):
    return sorted(table.end() for table in pair_tables(pair, streams, sizes))


def enough_by_hand(pair, streams, sizes):
    return not any(table.lacks_room() for table in pair_tables(pair, streams, sizes))


def least_by_hand(pair, is_enough):
    enough = [sizes for sizes in all_bounds(pair) if is_enough(sizes)]
    below = lambda one, other: one != other and all(size <= most for size, most in zip(one, other))
    return [sizes for sizes in enough if not any(below(other, sizes) for other in enough)]


def come_to_by_hand(pair, sizes):
    """All tuples (standing, standing, contents) that are come to; what in-lines bring does not matter."""
    begin = (0, 0, tuple(() for _ in pair.stores))
    seen, waiting = {begin}, [begin]
    while waiting:
        one, other, contents = waiting.pop()
        inside = dict(zip(pair.stores, contents))
        later = []
        for standing, _, gives, goal in pair.first.reactions():
            puts = {line: worth for line, worth in gives.items() if line in inside}
            if standing == one and all(len(inside[line]) < size for line, size in zip(pair.stores, sizes) if line in puts):
                more = tuple(inside[line] + ((puts[line],) if line in puts else ()) for line in pair.stores)
                later.append((goal, other, more))
        for standing, takes, _, goal in pair.second.reactions():
            draws = {line: worth for line, worth in takes.items() if line in inside}
            if standing == other and all(inside[line][:1] == (worth,) for line, worth in draws.items()):
                more = tuple(inside[line][1:] if line in draws else inside[line] for line in pair.stores)
                later.append((one, goal, more))
        for node in later:
            if node not in seen:
                seen.add(node)
                waiting.append(node)
    return seen


def is_standstill_by_hand(pair, sizes, value):
    if type(value) is not tuple or len(value) != 2 or not are_strict(value):
        return False
    streams, run = value
    if not isinstance(streams, dict) or not isinstance(run, (list, tuple)):
        return False
    for line, stream in streams.items():
        if line not in pair.ins or not isinstance(stream, (list, tuple)):
            return False
        if not all(isinstance(worth, int) and 0 <= worth <= 9 for worth in stream):
            return False
    table = pair_walk(pair, streams, sizes, run)
    return table is not None and not table.beats() and table.lacks_room()


def pair_streams(pair, most, worths=(0, 1)):
    """All small streams of a pair."""
    return small_streams(pair, most, worths)


class Interface(Case):
    def test_what_is_listed_is_defined_there_with_its_names(self):
        self.listed(stores, PARAMETERS)
        self.assertEqual(Pair.__module__, "loosebeats.stores")
        for name in ("__init__", "__eq__", "__repr__", "first", "second", "stores", "ins", "outs"):
            self.assertIn(name, vars(Pair))

    def test_examples(self):
        pair = easy()
        self.assertEqual(
            [pair.ins, pair.outs, pair_end(pair, {"a": [0, 0], "b": [0]}), are_always_enough(pair, (1,))],
            [["a", "b"], ["p"], (0, 0, ((),), ((), ()), ((3, 3),)), True],
        )
        told = [least_sizes(slow(), {"a": [0, 0]}), are_enough(slow(), {"a": [0, 0]}, (1,)), always_least(slow())]
        told += [always_least(pair), with_rooms(free(), {"o": "room"})[0]]
        self.assertEqual(told, [[(2,)], False, [], [(1,)], (0, {"a": 0, "room": 0}, {"o": 1}, 0)])

    def test_arguments_by_name(self):
        pair = Pair(second=late(), first=free())
        self.assertEqual(pair, easy())
        end = (0, 0, ((1,),), ((), ()), ((),))
        self.assertEqual(pair_run_end(sizes=(1,), run=[(0, 0)], streams={"a": [0]}, pair=pair), end)
        self.assertEqual(pair_end(streams={}, pair=pair), (0, 0, ((),), ((), ()), ((),)))
        self.assertEqual(pair_ends(sizes=(None,), streams={}, pair=pair), [(0, 0, ((),), ((), ()), ((),))])
        self.assertIs(are_enough(sizes=(1,), streams={}, pair=pair), True)
        self.assertEqual([least_sizes(streams={}, pair=pair), always_least(pair=pair)], [[(1,)], [(1,)]])
        self.assertIs(are_always_enough(sizes=(1,), pair=pair), True)
        self.assertIsNone(standstill(sizes=(1,), pair=pair))
        self.assertIs(is_standstill(value=({}, []), sizes=(1,), pair=pair), False)
        self.assertEqual(with_rooms(rooms={}, machine=free()), free())


class Pairs(Case):
    def test_lines_in_their_sequences(self):
        first = Machine(["k", "a"], ["q", "z", "o"], 1, [])
        second = Machine(["o", "b", "q"], ["y", "e"], 1, [])
        pair = Pair(first, second)
        self.assertEqual([pair.stores, pair.ins, pair.outs], [["q", "o"], ["k", "a", "b"], ["z", "y", "e"]])
        self.assertEqual([pair.first, pair.second], [first, second])

    def test_equal_and_unlike(self):
        pair = easy()
        self.assertTrue(pair == Pair(free(), late()))
        self.assertFalse(pair != Pair(free(), late()))
        others = [slow(), Pair(free() - 1, late()), Pair(free(), late() - 0), *odd_values(), (free(), late()), free()]
        for value in others:
            if not isinstance(value, Same):
                self.assertFalse(pair == value)
                self.assertTrue(pair != value)

    def test_repr(self):
        self.assertEqual(repr(easy()), f"Pair({free()!r}, {late()!r})")
        self.assertEqual(eval(repr(slow())), slow())

    def test_shared_lines(self):
        lines = {"a": "in", "b": "in", "o": "out", "p": "out"}
        first = Machine(["a", "b"], ["o", "p"], 1, [])
        for ins, outs in itertools.product(itertools.permutations("abopz", 2), itertools.permutations("abopy", 2)):
            if set(ins) & set(outs):
                continue
            second = Machine(list(ins), list(outs), 1, [])
            wrong = [line for line in lines if line in ins + outs and not (lines[line] == "out" and line in ins)]
            if wrong:
                self.refused(SharedLine, {"value": wrong[0]}, Pair, first, second)
            elif not set(ins) & {"o", "p"}:
                self.refused(NoStore, {}, Pair, first, second)
            else:
                self.assertEqual(Pair(first, second).stores, [line for line in "op" if line in ins])

    def test_shared_lines_go_ahead_of_too_many_stores_and_of_none(self):
        first = Machine(["a"], ["o", "p", "q"], 1, [])
        self.refused(SharedLine, {"value": "a"}, Pair, first, Machine(["o", "p", "q", "a"], [], 1, []))
        self.refused(SharedLine, {"value": "q"}, Pair, first, Machine(["o", "p"], ["q"], 1, []))
        self.refused(SharedLine, {"value": "a"}, Pair, first, Machine(["b"], ["a"], 1, []))
        self.refused(SharedLine, {"value": "o"}, Pair, free(), Machine(["b"], ["o"], 1, []).renamed({"b": "c"}))

    def test_one_two_and_three_stores(self):
        first = Machine(["a"], ["o", "p", "q"], 1, [])
        self.assertEqual(Pair(first, Machine(["q"], [], 1, [])).stores, ["q"])
        self.assertEqual(Pair(first, Machine(["q", "o"], [], 1, [])).stores, ["o", "q"])
        self.refused(TooMany, {"what": "stores", "limit": 2}, Pair, first, Machine(["q", "o", "p"], [], 1, []))
        self.refused(NoStore, {}, Pair, first, Machine(["b"], ["c"], 1, []))
        self.refused(NoStore, {}, Pair, Machine(["a"], [], 1, []), Machine(["b"], ["c"], 1, []))

    def test_it_does_not_change(self):
        pair = slow()
        for told in (pair.stores, pair.ins, pair.outs):
            told.append("k")
            told.sort()
        self.assertEqual([pair, pair.stores, pair.ins, pair.outs], [slow(), ["o"], ["a", "b", "c"], []])
        for name in ("first", "second", "stores", "ins", "outs"):
            with self.assertRaises(AttributeError):
                setattr(pair, name, [])


class Runs(Case):
    def test_ordinary(self):
        pair, streams = slow(), {"a": [0, 0], "c": (0, 5)}
        self.assertEqual(pair_run_end(pair, streams, []), (0, 0, ((),), ((0, 0), (), (0, 5)), ()))
        told = pair_run_end(pair, streams, ((0, 0), (0, 0), (1, 0)))
        self.assertEqual(told, (0, 0, ((1,),), ((), (), (5,)), ()))
        self.assertEqual(pair_run_end(pair, streams, [(0, 0), (1, 0), (0, 0)], (1,)), told)

    def test_room(self):
        pair, streams = slow(), {"a": [0] * 5, "c": [0]}
        for size in SIZES:
            run = [(0, 0)] * size
            self.assertEqual(pair_run_end(pair, streams, run, (size,))[2], ((1,) * size,))
            self.refused(InvalidRun, {"position": size}, pair_run_end, pair, streams, run + [(0, 0)], (size,))
            # Taking makes room, but behind the beat alone.
            self.assertEqual(pair_run_end(pair, streams, run + [(1, 0), (0, 0)], (size,))[2], ((1,) * size,))
        self.assertEqual(pair_run_end(pair, streams, [(0, 0)] * 5, (None,))[2], ((1,) * 5,))

    def test_both_stores_must_have_room(self):
        first = Machine(["a"], ["o", "p"], 1, [(0, {"a": 0}, {"o": 1, "p": 2}, 0)])
        pair = Pair(first, Machine(["o", "p"], ["y"], 1, [(0, {"o": 1}, {}, 0), (0, {"p": 2}, {}, 0)]))
        streams = {"a": [0, 0]}
        for taken in (0, 1):
            run = [(0, 0), (1, taken), (0, 0)]
            self.refused(InvalidRun, {"position": 2}, pair_run_end, pair, streams, run, (1, 1))
        run = [(0, 0), (1, 1), (1, 0), (0, 0)]
        self.assertEqual(pair_run_end(pair, streams, run, (1, 1))[2], ((1,), (2,)))
        self.assertEqual(pair_run_end(pair, streams, [(0, 0), (1, 0), (0, 0)], (1, None))[2], ((1,), (2, 2)))

    def test_against_doing_by_hand(self):
        rng = random.Random(71)
        for _ in range(150):
            pair = some_pair(rng)
            streams = {line: [int(rng.random() < 0.2) for _ in range(4)] for line in pair.ins}
            sizes = rng.choice([*all_bounds(pair, (1, 2, None))])
            table, run = Table(pair, streams, sizes), []
            while table.beats():
                for beat in [(0, 9), *itertools.product((0, 1), range(5))]:
                    if beat not in table.beats():
                        self.refused(
                            InvalidRun, {"position": len(run)}, pair_run_end, pair, streams, run + [beat], sizes
                        )
                beat = rng.choice(table.beats())
                table.do(beat)
                run.append(beat)
                self.assertEqual(pair_run_end(pair, streams, run, sizes), table.end())

    def test_wrong_runs(self):
        pair, streams = easy(), {"a": [0, 0]}
        for value in [*odd_values(), 0, "", {}, {(0, 0): 1}]:
            self.refused(InvalidRun, {"position": None}, pair_run_end, pair, streams, value)
        wrong = [*odd_values(), 0, "00", [0, 0], (0,), (0, 0, 0), (False, 0), (0, False), (2, 0), (-1, 0), (0, -1)]
        wrong += [(0, 2), (0, "0"), ("0", 0), (0, None), (0, 1), (1, 0), ((0, 0),), (0, Same()), (10**29, 10**29)]
        for value in wrong:
            self.refused(InvalidRun, {"position": 0}, pair_run_end, pair, streams, [value])
            self.refused(InvalidRun, {"position": 1}, pair_run_end, pair, streams, ((0, 0), value if value != (1, 0) else 5))
        self.refused(InvalidRun, {"position": 2}, pair_run_end, pair, streams, [(0, 0), (1, 0), (1, 0)])

    def test_wrong_sizes_go_ahead_of_wrong_runs_and_behind_wrong_streams(self):
        pair = easy()
        for sizes in wrong_sizes(1, True):
            self.refused(InvalidSizes, {"value": sizes}, pair_run_end, pair, {"a": [0]}, "wrong", sizes)
            self.refused(InvalidStreams, {"value": 5}, pair_run_end, pair, 5, "wrong", sizes)
        for sizes in wrong_sizes(2, True):
            self.refused(InvalidSizes, {"value": sizes}, pair_run_end, crossed(), {}, [(9, 9)], sizes)

    def test_streams_of_stores_are_none(self):
        for streams in ({"o": [1]}, {"o": []}, {"p": []}, {"a": [0], "o": ()}):
            for call in (pair_end, pair_ends, least_sizes):
                self.refused(InvalidStreams, {"value": streams}, call, easy(), streams)
        self.assertEqual(pair_ends(slow(), {"c": [5]}), [(0, 0, ((),), ((), (), (5,)), ())])

    def test_wrong_streams(self):
        pair = Pair(race(), Machine(["o"], ["k"], 1, []))
        for streams in wrong_streams():
            self.refused(InvalidStreams, {"value": streams}, pair_run_end, pair, streams, [])
            self.refused(InvalidStreams, {"value": streams}, pair_end, pair, streams)
            self.refused(InvalidStreams, {"value": streams}, pair_ends, pair, streams, "wrong")
            self.refused(InvalidStreams, {"value": streams}, are_enough, pair, streams, "wrong")
            self.refused(InvalidStreams, {"value": streams}, least_sizes, pair, streams)

    def test_long_runs(self):
        pair, streams = easy(), {"a": [0] * 1000, "b": [0] * 500}
        run = [(0, 0), (1, 0)] * 1000
        told = pair_run_end(pair, streams, run, (1,))
        self.assertEqual(told, (0, 0, ((),), ((), (0,) * 500), ((3,) * 1000,)))
        self.assertEqual(pair_run_end(pair, streams, [(0, 0)] * 1000)[2], ((1,) * 1000,))


def wrong_sizes(many, with_none):
    """Values that are no sizes for so many stores."""
    good = (2,) * many
    yield from [*odd_values()[1:], 1, "1", [*good], {}, {2: 2}, (), good[1:], good + (1,), (good,), list(good)]
    for wrong in [*odd_values()[1:], 0, 4, -1, "1", (1,), [1], 10**29]:
        for at in range(many):
            yield good[:at] + (wrong,) + good[at + 1 :]
    if not with_none:
        for at in range(many):
            yield good[:at] + (None,) + good[at + 1 :]


class Ends(Case):
    def test_against_doing_everything(self):
        rng = random.Random(710)
        many = 0
        for _ in range(120):
            pair = some_pair(rng)
            for streams in rng.sample(list(pair_streams(pair, 4)), 6):
                for sizes in [None, *all_bounds(pair, (1, 2, None))]:
                    expected = ends_by_hand(pair, streams, sizes or tuple(None for _ in pair.stores))
                    told = pair_ends(pair, streams) if sizes is None else pair_ends(pair, streams, sizes)
                    self.assertEqual(told, expected, (pair, streams, sizes))
                    many += len(expected) > 1
        self.assertGreater(many, 100)

    def test_with_more_worths_against_doing_everything(self):
        rng = random.Random(711)
        for _ in range(40):
            pair = some_pair(rng, standings=3, reactions=8)
            streams = {line: [int(rng.random() < 0.2) for _ in range(rng.randint(0, 4))] for line in pair.ins}
            sizes = rng.choice([tuple(None for _ in pair.stores), *all_bounds(pair)])
            self.assertEqual(pair_ends(pair, streams, sizes), ends_by_hand(pair, streams, sizes))

    def test_second_machines_that_are_nearly_two_beside_each_other(self):
        # Of steps that do not touch only one is looked at: just where it makes no difference.
        rng = random.Random(713)
        many = 0
        for _ in range(500):
            first = part(rng, ["a", "b"][: rng.randint(1, 2)], ["o", "p"], 2, 5, 0.7)
            pair = Pair(first, nearly_beside(rng))
            streams = {line: [int(rng.random() < 0.2) for _ in range(rng.randint(0, 2))] for line in pair.ins}
            for sizes in rng.sample(all_bounds(pair, (1, 2, None)), 3):
                expected = pair_tables(pair, streams, sizes)
                told = pair_ends(pair, streams, sizes)
                self.assertEqual(told, sorted(table.end() for table in expected), (pair, streams, sizes))
                enough = not any(table.lacks_room() for table in expected)
                self.assertIs(are_enough(pair, streams, sizes), enough, (pair, streams, sizes))
                many += len(told) > 1
        self.assertGreater(many, 100)

    def test_where_it_matters_what_comes_first(self):
        first = Machine(["a"], ["o", "p"], 1, [(0, {"a": 0}, {"o": 0, "p": 0}, 0)])
        on_one_line = [(0, {"o": 0}, {"y": 1}, 0), (0, {"p": 0}, {"y": 2}, 0)]
        pair = Pair(first, Machine(["o", "p"], ["y", "z"], 1, on_one_line))
        told = pair_ends(pair, {"a": [0]})
        self.assertEqual([end[4] for end in told], [((1, 2), ()), ((2, 1), ())])
        on_two = [(0, {"o": 0}, {"y": 1}, 0), (0, {"p": 0}, {"z": 2}, 0)]
        pair = Pair(first, Machine(["o", "p"], ["y", "z"], 1, on_two))
        self.assertEqual([end[4] for end in pair_ends(pair, {"a": [0]})], [((1,), (2,))])
        # Behind the one the other one leads elsewhere, or not at all, or there is a third one for both.
        elsewhere = [(0, {"o": 0}, {}, 1), (0, {"p": 0}, {}, 2), (1, {"p": 0}, {}, 3), (2, {"o": 0}, {}, 4)]
        for rows, standings in [(elsewhere, [3, 4]), (elsewhere[:3], [2, 3]), (elsewhere[:2], [1, 2])]:
            pair = Pair(first, Machine(["o", "p"], [], 5, rows))
            self.assertEqual([end[1] for end in pair_ends(pair, {"a": [0]})], standings)
        third = on_two + [(0, {"o": 0, "p": 0}, {}, 0)]
        pair = Pair(first, Machine(["o", "p"], ["y", "z"], 1, third))
        self.assertEqual([end[4] for end in pair_ends(pair, {"a": [0]})], [((), ()), ((1,), (2,))])

    def test_far_more_contents_than_ends(self):
        rows = [(0, {"a": 0}, {"o": w, "p": v}, 0) for w in range(10) for v in range(4)]
        eaters = [(0, {"o": w}, {}, 0) for w in range(10)] + [(0, {"p": v}, {}, 0) for v in range(10)]
        pair = Pair(Machine(["a"], ["o", "p"], 1, rows), Machine(["p", "o"], ["y"], 1, eaters))
        begun = time.monotonic()
        for sizes in (None, (3, 3), (None, 1)):
            told = pair_ends(pair, {"a": [0] * 12}, sizes)
            self.assertEqual(told, [(0, 0, ((), ()), ((),), ((),))])
        self.assertEqual(least_sizes(pair, {"a": [0] * 12}), [(1, 1)])
        rows = [(0, {line: 0}, {store: w}, 0) for line, store in ("ao", "bp") for w in range(10)]
        apart = Pair(Machine(["a", "b"], ["o", "p"], 1, rows), pair.second)
        self.assertEqual(pair_ends(apart, {"a": [0] * 6, "b": [0] * 6}), [(0, 0, ((), ()), ((), ()), ((),))])
        self.assertLess(time.monotonic() - begun, 20)

    def test_alike_machines_have_one_end_without_bounds(self):
        rng = random.Random(712)
        looked = 0
        while looked < 60:
            pair = some_pair(rng, standings=3)
            if not is_alike(pair.first) or not is_alike(pair.second):
                continue
            looked += 1
            for streams in rng.sample(list(pair_streams(pair, 4)), 5):
                self.assertEqual([pair_end(pair, streams)], ends_by_hand(pair, streams, (None,) * len(pair.stores)))
                self.assertEqual(pair_ends(pair, streams), [pair_end(pair, streams)])

    def test_not_alike_the_first_and_the_second(self):
        taker = Machine(["o"], ["k"], 1, [(0, {"o": 0}, {}, 0)])
        twins = Machine(["o"], ["k"], 1, [(0, {"o": 0}, {}, 0), (0, {"o": 0}, {"k": 0}, 0)])
        self.refused(NotAlike, {"which": 0}, pair_end, Pair(race(), taker), {})
        self.refused(NotAlike, {"which": 1}, pair_end, Pair(free(), twins), {"a": [0]})
        self.refused(NotAlike, {"which": 0}, pair_end, Pair(race(), twins), {})
        self.refused(InvalidStreams, {"value": {"k": []}}, pair_end, Pair(race(), twins), {"k": []})
        self.assertEqual(len(pair_ends(Pair(race(), twins), {"a": [0], "b": [0]})), 3)

    def test_bounds_bring_other_ends_even_if_both_are_smooth(self):
        self.assertEqual(pair_ends(slow(), {"a": [0, 0]}), [(0, 0, ((1, 1),), ((), (), ()), ())])
        self.assertEqual(pair_ends(slow(), {"a": [0, 0]}, (1,)), [(0, 0, ((1,),), ((0,), (), ()), ())])
        told = pair_ends(crossed(), {"a": [0, 0, 1]}, (1, 1))
        self.assertEqual(told, [(0, 0, ((0,), ()), ((0, 1),), ((),))])
        self.assertEqual(pair_ends(crossed(), {"a": [0, 0, 1]}), [(0, 1, ((), ()), ((),), ((7, 7),))])

    def test_a_full_store_tells_which_reaction_is_done(self):
        first = Machine(["a"], ["o", "x"], 1, [(0, {"a": 0}, {"o": 1}, 0), (0, {"a": 0}, {"x": 1}, 0)])
        pair = Pair(first, Machine(["o", "c"], [], 1, [(0, {"o": 1, "c": 0}, {}, 0)]))
        self.assertEqual(len(pair_ends(pair, {"a": [0, 0]})), 3)
        told = pair_ends(pair, {"a": [0, 0]}, (1,))
        self.assertEqual(told, [(0, 0, ((),), ((), ()), ((1, 1),)), (0, 0, ((1,),), ((), ()), ((1,),))])
        self.assertIs(are_enough(pair, {"a": [0, 0]}, (1,)), True)

    def test_what_waits_for_a_store_races_with_what_can_be_done(self):
        first = Machine(["a"], ["o"], 1, [(0, {"a": 0}, {"o": 0}, 0)])
        second = Machine(["o", "c"], ["y"], 2, [(0, {"c": 0}, {"y": 1}, 1), (0, {"o": 0}, {"y": 2}, 1)])
        told = pair_ends(Pair(first, second), {"a": [0], "c": [0]})
        self.assertEqual([end[4] for end in told], [((2,),), ((1,),)])

    def test_twelve_worths_and_thirteen(self):
        refused = {"what": "worths", "limit": 12}
        pair = slow()
        twelve, thirteen = {"a": [0] * 8, "c": (0,) * 4}, {"a": [0] * 8, "c": (0,) * 4, "b": [5]}
        self.assertEqual(pair_ends(pair, twelve), [(0, 0, ((1,) * 4,), ((), (), ()), ())])
        self.assertIs(are_enough(pair, twelve, (3,)), False)
        self.assertEqual(least_sizes(pair, twelve), [])
        self.refused(TooMany, refused, pair_ends, pair, thirteen)
        self.refused(TooMany, refused, pair_ends, pair, thirteen, "wrong, too")
        self.refused(TooMany, refused, are_enough, pair, thirteen, (7,))
        self.refused(TooMany, refused, least_sizes, pair, thirteen)
        self.refused(InvalidStreams, {"value": {**thirteen, "k": []}}, pair_ends, pair, {**thirteen, "k": []})
        self.assertEqual(pair_end(pair, thirteen)[2:4], (((1,) * 4,), ((), (5,), ())))

    def test_two_hundred_ends_and_more(self):
        refused = {"what": "ends", "limit": 200}
        rows = [(0, {"a": 0}, {"o": w % 10, "x": w // 10}, 0) for w in range(20)] + [(0, {"b": 0}, {"o": w}, 1) for w in range(10)]
        pair = Pair(Machine(["a", "b"], ["o", "x"], 2, rows), Machine(["o"], [], 1, []))
        self.assertEqual(len(pair_ends(pair, {"a": [0]})), 20)
        two = Pair(pair.first, Machine(["o", "c"], ["y"], 1, [(0, {"c": 0}, {"y": w}, 0) for w in range(10)]))
        self.assertEqual(len(pair_ends(two, {"a": [0], "c": [0]})), 200)
        more = Pair(pair.first + (0, {"a": 0}, {}, 0), two.second)
        self.refused(TooMany, refused, pair_ends, more, {"a": [0], "c": [0]})
        begun = time.monotonic()
        self.refused(TooMany, refused, pair_ends, more, {"a": [0] * 6, "c": [0] * 6})
        self.refused(TooMany, refused, pair_ends, given(range(10)), {"a": [0] * 12}, (None,))
        self.refused(InvalidSizes, {"value": (4,)}, pair_ends, more, {"a": [0] * 6}, (4,))
        # Many contents on the way make no ends.
        eater = Pair(given(range(10)).first, Machine(["o"], [], 1, [(0, {"o": w}, {}, 0) for w in range(10)]))
        self.assertEqual(pair_ends(eater, {"a": [0] * 12}), [(0, 0, ((),), ((),), ())])
        self.assertLess(time.monotonic() - begun, 20)

    def test_long_streams(self):
        streams = {"a": [0] * 2000, "b": [0] * 2000, "c": [0] * 1500}
        self.assertEqual(pair_end(slow(), streams), (0, 0, ((1,) * 500,), ((), (), ()), ()))


class Enough(Case):
    def test_against_doing_everything(self):
        rng = random.Random(72)
        told_of = {True: 0, False: 0}
        for _ in range(100):
            pair = some_pair(rng)
            for streams in rng.sample(list(pair_streams(pair, 4)), 5):
                for sizes in all_bounds(pair, (1, 2, None)):
                    told = are_enough(pair, streams, sizes)
                    self.assertIs(told, enough_by_hand(pair, streams, sizes), (pair, streams, sizes))
                    told_of[told] += 1
                expected = least_by_hand(pair, lambda sizes: enough_by_hand(pair, streams, sizes))
                self.assertEqual(least_sizes(pair, streams), expected, (pair, streams))
        self.assertGreater(min(told_of.values()), 100)

    def test_least_sizes(self):
        for many in range(5):
            streams = {"a": [0] * many + [1]}
            self.assertEqual(least_sizes(crossed(), streams), [(max(many, 1), 1)] if many < 4 else [])
        first = Machine(["a"], ["o", "p"], 1, [(0, {"a": 0}, {"o": 0}, 0), (0, {"a": 1}, {"p": 0}, 0)])
        second = Machine(["o", "p", "c"], [], 1, [(0, {"o": 0, "p": 0, "c": 0}, {}, 0)])
        self.assertEqual(least_sizes(Pair(first, second), {"a": [0, 0, 1, 1, 1]}), [(2, 3)])
        self.assertEqual(least_sizes(Pair(first, second), {"a": [0, 0, 1, 1, 1], "c": [0]}), [(2, 2)])

    def test_several_least_ones(self):
        expected = {1: [(1, 1)], 2: [(1, 1)], 3: [(1, 2), (2, 1)], 4: [(1, 3), (2, 2), (3, 1)], 6: [(3, 3)], 7: []}
        for many, sizes in expected.items():
            self.assertEqual(least_sizes(either(many), {"a": [0] * many}), sizes)
            self.assertEqual(always_least(either(many)), sizes)

    def test_all_streams_against_doing_everything(self):
        rng = random.Random(720)
        told_of = {True: 0, False: 0}
        for _ in range(150):
            pair = some_pair(rng)
            for sizes in all_bounds(pair, (1, 2)):
                told = are_always_enough(pair, sizes)
                told_of[told] += 1
                paper = standstill(pair, sizes)
                self.assertIs(paper is None, told)
                if told:
                    for streams in rng.sample(list(pair_streams(pair, 4)), 6):
                        self.assertTrue(enough_by_hand(pair, streams, sizes), (pair, sizes, streams))
                else:
                    self.assertTrue(is_standstill_by_hand(pair, sizes, paper), (pair, sizes, paper))
                    self.assertIs(is_standstill(pair, sizes, paper), True)
                    if sum(map(len, paper[0].values())) <= 6:
                        self.assertFalse(enough_by_hand(pair, paper[0], sizes))
        self.assertGreater(min(told_of.values()), 40)

    def test_no_small_streams_stand_still_where_they_are_always_enough(self):
        rng = random.Random(721)
        for _ in range(40):
            pair = some_pair(rng, stores=1, reactions=3)
            for sizes in all_bounds(pair, (1, 2)):
                still = any(not enough_by_hand(pair, streams, sizes) for streams in pair_streams(pair, 4))
                if still:
                    self.assertIs(are_always_enough(pair, sizes), False)
                elif not are_always_enough(pair, sizes):
                    self.assertGreater(sum(map(len, standstill(pair, sizes)[0].values())), 4)

    def test_always_least_by_all_sizes(self):
        rng = random.Random(722)
        kinds = set()
        for place in range(400):
            pair = some_pair(rng) if place < 60 else some_pair(rng, stores=2, standings=4, reactions=9)
            if len(come_to_by_hand(pair, (3,) * len(pair.stores))) > 2000:
                continue
            expected = least_by_hand(pair, lambda sizes: are_always_enough(pair, sizes))
            self.assertEqual(always_least(pair), expected)
            kinds.add(tuple(expected))
        self.assertGreater(len(kinds), 4, kinds)

    def test_streams_tell_whether_sizes_are_enough(self):
        first = Machine(["a"], ["o"], 1, [(0, {"a": 0}, {"o": 0}, 0), (0, {"a": 1}, {"o": 1}, 0)])
        second = Machine(["o", "c"], ["y"], 1, [(0, {"o": 0}, {}, 0), (0, {"o": 1, "c": 0}, {}, 0)])
        pair = Pair(first, second)
        self.assertEqual([always_least(pair), least_sizes(pair, {"a": [0] * 6})], [[], [(1,)]])
        self.assertEqual(least_sizes(pair, {"a": [0, 1, 0]}), [(2,)])
        self.assertEqual(least_sizes(pair, {"a": [0, 1, 0], "c": [0]}), [(1,)])

    def test_greater_sizes_may_be_too_small_where_lesser_ones_are_enough(self):
        rows = [(0, {"a": 0}, {"o": 0}, 1), (1, {"a": 0}, {"o": 0}, 2), (1, {"a": 0}, {}, 4), (2, {"a": 0}, {"o": 0}, 3)]
        pair = Pair(Machine(["a"], ["o"], 5, rows), Machine(["o"], [], 1, []))
        self.assertEqual([are_always_enough(pair, (size,)) for size in SIZES], [True, False, True])
        self.assertEqual([are_enough(pair, {"a": [0] * 3}, (size,)) for size in SIZES], [True, False, True])
        self.assertEqual([always_least(pair), least_sizes(pair, {"a": [0] * 3})], [[(1,)], [(1,)]])

    def test_by_just_what_the_reaction_takes_nothing_can_be_done(self):
        second = Machine(["o", "c"], [], 1, [(0, {"o": 1, "c": 0}, {}, 0)])
        rows = [(0, {"a": 0}, {"o": 1}, 0)]
        self.assertIs(are_always_enough(Pair(Machine(["a", "b"], ["o"], 1, rows), second), (1,)), False)
        # Another reaction of the first that can be done by it, or by less; not one that needs more.
        also = [(0, {"a": 0}, {}, 0)]
        self.assertIs(are_always_enough(Pair(Machine(["a", "b"], ["o"], 1, rows + also), second), (1,)), True)
        less = [(0, {"a": 0, "b": 0}, {"o": 1}, 0), (0, {"b": 0}, {}, 0)]
        self.assertIs(are_always_enough(Pair(Machine(["a", "b"], ["o"], 1, less), second), (1,)), True)
        more = rows + [(0, {"a": 0, "b": 0}, {}, 0)]
        self.assertIs(are_always_enough(Pair(Machine(["a", "b"], ["o"], 1, more), second), (1,)), False)
        # A reaction of the second that takes from the store alone; not one that asks for another worth.
        alone = second + (0, {"o": 1}, {}, 0)
        self.assertIs(are_always_enough(Pair(Machine(["a", "b"], ["o"], 1, rows), alone), (1,)), True)
        other = second + (0, {"o": 2}, {}, 0)
        self.assertIs(are_always_enough(Pair(Machine(["a", "b"], ["o"], 1, rows), other), (1,)), False)

    def test_standings_that_are_not_come_to_do_not_matter(self):
        rows = [(0, {"a": 0}, {"o": 0}, 0), (1, {"a": 1}, {"o": 5}, 1)]
        second = Machine(["o"], [], 1, [(0, {"o": 0}, {}, 0)])
        pair = Pair(Machine(["a"], ["o"], 2, rows), second)
        self.assertEqual([always_least(pair), standstill(pair, (1,))], [[(1,)], None])

    def test_contents_of_two_thousand_and_more(self):
        refused = {"what": "contents", "limit": 2000}
        pair = given(range(10))
        self.assertEqual(len(come_to_by_hand(pair, (3,))), 1111)
        self.assertIs(are_always_enough(pair, (3,)), False)
        self.assertTrue(is_standstill_by_hand(pair, (3,), standstill(pair, (3,))))
        self.assertEqual(always_least(pair), [])
        rows = [(0, {"a": w}, {"o": w}, 0) for w in range(7)]
        just = Pair(Machine(["a"], ["o"], 1, rows), stepping(5))
        self.assertEqual(len(come_to_by_hand(just, (3,))), 2000)
        self.assertIs(are_always_enough(just, (3,)), False)
        self.assertTrue(is_standstill_by_hand(just, (3,), standstill(just, (3,))))
        self.assertEqual(always_least(just), [])
        rows = [(k, {"a": w}, {"o": w}, k + 1) for k, many in enumerate([6, 10, 10]) for w in range(many)]
        more = Pair(Machine(["a"], ["o"], 4, rows), stepping(3))
        self.assertEqual(len(come_to_by_hand(more, (3,))), 2001)
        for call in (are_always_enough, standstill):
            self.refused(TooMany, refused, call, more, (3,))
        self.assertIs(are_always_enough(more, (2,)), False)
        self.assertTrue(is_standstill_by_hand(more, (2,), standstill(more, (2,))))
        self.refused(TooMany, refused, always_least, more)
        # Lesser sizes may be enough with few, but the greatest ones tell whether there are too many.
        rows = [(0, {"a": w}, {"o": w}, 0) for w in range(10)]
        second = [(k, {"o": w}, {}, 1 - k) for k in (0, 1) for w in range(10)]
        eater = Pair(Machine(["a"], ["o"], 1, rows), Machine(["o"], [], 2, second))
        self.assertEqual(len(come_to_by_hand(eater, (3,))), 2222)
        self.assertIs(are_always_enough(eater, (1,)), True)
        self.refused(TooMany, refused, always_least, eater)
        # No limit where a standstill is only judged.
        endless = Pair(Machine(["a"], ["o"], 1, just.first.reactions() + [(0, {"a": 7}, {"o": 7}, 0)]), stepping(5))
        value = ({"a": [0] * 4}, [(0, 0)] * 3)
        self.refused(TooMany, refused, standstill, endless, (3,))
        self.assertIs(is_standstill(endless, (3,), value), True)

    def test_wrong_sizes(self):
        for many, pair in ((1, easy()), (2, crossed())):
            for sizes in wrong_sizes(many, False):
                self.refused(InvalidSizes, {"value": sizes}, are_always_enough, pair, sizes)
                self.refused(InvalidSizes, {"value": sizes}, standstill, pair, sizes)
                self.refused(InvalidSizes, {"value": sizes}, is_standstill, pair, sizes, ({}, []))
            for sizes in wrong_sizes(many, True):
                self.refused(InvalidSizes, {"value": sizes}, are_enough, pair, {}, sizes)
                self.refused(InvalidSizes, {"value": sizes}, pair_ends, pair, {}, sizes)
            self.assertIs(are_enough(pair, {}, (None,) * many), True)
        self.refused(InvalidSizes, {"value": (4,)}, are_always_enough, given(range(10)), (4,))

    def test_standstills_that_are_spoiled(self):
        rng = random.Random(723)
        wrong = right = looked = 0
        while looked < 25:
            pair = some_pair(rng)
            sizes = rng.choice(all_bounds(pair, (1, 2)))
            paper = standstill(pair, sizes)
            if paper is None:
                continue
            looked += 1
            for value in spoiled(paper):
                expected = is_standstill_by_hand(pair, sizes, value)
                self.assertIs(is_standstill(pair, sizes, value), expected, (pair, sizes, value))
                wrong, right = wrong + (not expected), right + expected
        self.assertGreater(wrong, 1000)
        self.assertGreater(right, 30)

    def test_no_standstills(self):
        pair, good = slow(), ({"a": [0, 0]}, [(0, 0)])
        more = [({"b": (), "a": (0, 0)}, ((0, 0),)), ({"a": [0, 0], "b": [5], "c": [7]}, [(0, 0)])]
        more.append(({"a": [0] * 2000}, [(0, 0)]))
        more.append(({"a": [0] * 3, "c": [0]}, [(0, 0), (1, 0), (0, 0)]))
        for value in [good, *more]:
            self.assertIs(is_standstill(pair, (1,), value), True)
        wrong = [*odd_values(), 0, "", {}, [], (), list(good), good[:1], (*good, []), (good,), good[::-1]]
        wrong += [({"a": [0]}, [(0, 0)]), ({"a": [0, 0]}, []), ({"a": [0, 1]}, [(0, 0)]), ({"a": [0, 0, 0], "c": [0]}, [(0, 0)])]
        wrong += [({"a": [0, 0]}, [[0, 0]]), ({"a": [0, 0]}, [(False, 0)]), ({"a": [0, 0]}, [(0, False)])]
        wrong += [({"a": [0, False]}, [(0, 0)]), ({"a": [0, 0], "o": [1]}, [(0, 0)]), ({"a": [0, 0]}, [(0, 0), (0, 0)])]
        wrong += [({"a": [0, 0], "b": [0]}, [(0, 0)]), ({"a": [0, 0]}, {(0, 0): 1}), ({"a": [0, 0]}, [(1, 0)])]
        wrong += [(streams, []) for streams in wrong_streams()] + [(good[0], [value]) for value in odd_values()]
        wrong += [(good[0], value) for value in odd_values()]
        for value in wrong:
            self.assertIs(is_standstill(pair, (1,), value), False, value)
        self.assertIs(is_standstill(pair, (2,), good), False)
        self.assertIs(is_standstill(pair, (2,), ({"a": [0, 0, 0]}, [(0, 0), (0, 0)])), True)

    def test_standstills_are_not_long(self):
        rows = [(k, {"a": 0}, {"o": k % 2}, (k + 1) % 12) for k in range(12)]
        second = [(k, {"o": k % 2}, {}, (k + 1) % 11) for k in range(11)]
        pair = Pair(Machine(["a"], ["o"], 12, rows), Machine(["o"], [], 11, second))
        for size in SIZES:
            streams, run = standstill(pair, (size,))
            self.assertIs(is_standstill(pair, (size,), (streams, run)), True)
            self.assertLessEqual(max(len(run), *map(len, streams.values())), 2000)


class Rooms(Case):
    def test_ordinary(self):
        machine = Machine(["a"], ["o", "p", "q"], 1, [(0, {"a": 0}, {"q": 1, "o": 2}, 0), (0, {"a": 1}, {"p": 3}, 0)])
        told = with_rooms(machine, {"q": "rq", "o": "ro"})
        self.assertEqual([told.ins, told.outs, told.standings], [["a", "ro", "rq"], ["o", "p", "q"], 1])
        self.assertEqual(told[0], (0, {"a": 0, "ro": 0, "rq": 0}, {"o": 2, "q": 1}, 0))
        self.assertEqual([list(told[0][1]), told[1]], [["a", "ro", "rq"], machine[1]])
        self.assertEqual(with_rooms(machine, {"o": "ro", "q": "rq"}), told)
        self.assertEqual(with_rooms(machine, {}), machine)
        self.assertEqual(with_rooms(machine, {"p": "b", "o": "c", "q": "d"}).ins, ["a", "c", "b", "d"])
        self.assertEqual(with_rooms(Machine(["a"], [], 1, []), {}), Machine(["a"], [], 1, []))

    def test_a_fifth_in_line(self):
        machine = Machine(["a", "b", "c"], ["o", "p"], 1, [])
        self.assertEqual(with_rooms(machine, {"p": "d"}).ins, list("abcd"))
        self.refused(TooMany, {"what": "ins", "limit": 4}, with_rooms, machine, {"p": "d", "o": "e"})
        four = Machine(list("abcd"), ["o"], 1, [])
        self.refused(TooMany, {"what": "ins", "limit": 4}, with_rooms, four, {"o": "e"})
        self.refused(InvalidRooms, {"value": {"p": "d", "o": "d"}}, with_rooms, machine, {"p": "d", "o": "d"})
        self.assertEqual(with_rooms(four, {}), four)

    def test_wrong_rooms(self):
        machine = Machine(["a"], ["o", "p"], 1, [])
        wrong = [*odd_values(), 0, "o", [], (), [("o", "r")], ["o"], {"o": "a"}, {"o": "p"}, {"o": "o"}, {"a": "r"}]
        wrong += [{"o": "r", "p": "r"}, {"k": "r"}, {"o": "R"}, {"o": ""}, {"o": "abcdefghi"}, {"o": "r1"}, {"o": "r "}]
        wrong += [{"o": value} for value in [*odd_values(), 0, ["r"], ("r",), {}]]
        wrong += [{key: "r"} for key in [None, True, 0, ("o",), b"o", Same()]]
        wrong += [{"o": "r", **more} for more in ({"p": "a"}, {"q": "s"}, {"p": None}, {None: "s"})]
        for value in wrong:
            self.refused(InvalidRooms, {"value": value}, with_rooms, machine, value)
        self.assertEqual(with_rooms(machine, {"o": "abcdefgh"}).ins, ["a", "abcdefgh"])

    def test_with_rooms_for_all_stores_any_sizes_end_alike(self):
        rng = random.Random(73)
        looked = both = 0
        while looked < 120:
            pair = some_pair(rng)
            rooms = {line: "r" + line for line in pair.stores}
            roomy = with_rooms(pair.first, rooms)
            if not is_alike(roomy) or not is_alike(pair.second):
                continue
            looked += 1
            both += not is_alike(pair.first)
            for streams in rng.sample(list(pair_streams(pair, 4)), 5):
                for sizes in all_bounds(pair):
                    self.assertEqual(len(ends_by_hand(pair, streams, sizes)), 1, (pair, streams, sizes))
                    self.assertEqual(len(pair_ends(pair, streams, sizes)), 1)

    def test_not_without_rooms(self):
        rows = [(0, {"a": 0}, {"o": 0}, 0), (0, {"b": 0}, {"x": 0}, 0), (0, {"a": 0, "b": 0}, {"x": 1}, 1)]
        first = Machine(["a", "b"], ["o", "x"], 2, rows)
        self.assertIs(is_alike(with_rooms(first, {"o": "r"})), False)
        told = pair_ends(Pair(first, Machine(["o", "c"], [], 1, [])), {"a": [0, 0], "b": [0]}, (1,))
        self.assertGreater(len(told), 1)


class Kept(Case):
    def test_what_is_passed_stays(self):
        pair, streams, run = slow(), {"c": (0,), "a": [0, 0]}, [(0, 0), (1, 0)]
        value, rooms = ({"a": [0, 0]}, [(0, 0)]), {"o": "r"}
        kept = copy.deepcopy([streams, run, value, rooms])
        pair_run_end(pair, streams, run)
        pair_end(pair, streams)
        pair_ends(pair, streams, (1,))
        are_enough(pair, streams, (1,))
        least_sizes(pair, streams)
        is_standstill(pair, (1,), value)
        with_rooms(pair.first, rooms)
        self.assertEqual([streams, run, value, rooms], kept)
        self.assertEqual([dict_order(streams), pair], [[("c", (0,)), ("a", [0, 0])], slow()])

    def test_what_is_told_is_new_also_inside(self):
        pair = slow()
        told = [pair_ends(pair, {}), least_sizes(pair, {}), always_least(easy()), *standstill(pair, (1,))]
        kept = copy.deepcopy(told)
        for part in told:
            for inner in part.values() if isinstance(part, dict) else []:
                inner.append(5)
            part.clear()
        again = [pair_ends(pair, {}), least_sizes(pair, {}), always_least(easy()), *standstill(pair, (1,))]
        self.assertEqual(again, kept)

    def test_kinds_of_what_is_told(self):
        pair = slow()
        for value in (pair_end(pair, {"a": [0]}), pair_run_end(pair, {"a": [0]}, []), pair_ends(pair, {})[0]):
            self.assertEqual([type(part) for part in value], [int, int, tuple, tuple, tuple])
            for part in value[2:]:
                self.assertEqual({type(inner) for inner in part} | {tuple}, {tuple})
        streams, run = standstill(pair, (1,))
        self.assertEqual([type(standstill(pair, (1,))), type(streams), type(run)], [tuple, dict, list])
        self.assertEqual([type(streams["a"]), {type(beat) for beat in run}], [list, {tuple}])
        for told in (pair_ends(pair, {}), least_sizes(pair, {}), always_least(pair)):
            self.assertIs(type(told), list)
        self.assertEqual([type(sizes) for sizes in least_sizes(pair, {})], [tuple])
        for told in (are_enough(pair, {}, (1,)), are_always_enough(pair, (1,)), is_standstill(pair, (1,), 0)):
            self.assertIs(type(told), bool)


if __name__ == "__main__":
    unittest.main()
