"""Likeness of standings and of machines: classes, least machines, pairs, shown streams."""

import copy
import itertools
import random
import unittest

from loosebeats import like
from loosebeats.alike import end, is_alike
from loosebeats.errors import InvalidStanding, NotAlike, NotReached, OtherLines
from loosebeats.like import (
    are_like,
    are_pairs,
    classes,
    is_shown,
    least,
    pairs_of,
    shown,
    tells_same,
)
from loosebeats.machines import Machine
from loosebeats.smooth import filled
from samples import (
    Case,
    Same,
    all_ends,
    are_strict,
    begun_at,
    dict_order,
    doubled,
    forty,
    free,
    loose,
    odd_values,
    race,
    small_streams,
    spoiled,
    strict,
    wrong_streams,
)

PARAMETERS = {
    "are_like": ["machine", "one", "other"],
    "classes": ["machine"],
    "least": ["machine"],
    "tells_same": ["one", "other"],
    "pairs_of": ["one", "other"],
    "are_pairs": ["one", "other", "value"],
    "shown": ["one", "other"],
    "is_shown": ["one", "other", "value"],
}

# Each function to which two Machines are passed, with what stands behind them.
OF_TWO = [(tells_same, []), (pairs_of, []), (are_pairs, [[(0, 0)]]), (shown, []), (is_shown, [{"a": [0]}])]


def twice():
    return Machine(["a"], ["o"], 2, [(0, {"a": 0}, {"o": 1}, 1), (1, {"a": 0}, {"o": 1}, 0)])


def wheel(gives, lines=("a",), back=0):
    """A ring of standings on these in-lines; each gives a worth, or nothing for None; the last leads back."""
    many = len(gives)
    rows = [
        (at, {line: 0 for line in lines}, {} if worth is None else {"o": worth}, at + 1 if at + 1 < many else back)
        for at, worth in enumerate(gives)
    ]
    return Machine(list(lines), ["o"], many, rows)


def told_from(machine, standing, streams):
    """The rests and flows of the end of an alike machine that begins at a standing."""
    (only,) = all_ends(machine, streams, standing)
    return only[1:]


def all_told(machine, standing, most):
    return [told_from(machine, standing, streams) for streams in small_streams(machine, most)]


def answer(machine, standing, takes):
    """Where it ends by just these takes, and what it gives; None if rests are left."""
    ((goal, rests, flows),) = all_ends(machine, {line: [worth] for line, worth in takes.items()}, standing)
    return None if any(rests) else (goal, flows)


def behind_by_hand(one, other, pair):
    """The pairs that must be beside a pair by [52]; None if one does not answer a reaction of the other one."""
    found = []
    for at, (mine, yours) in enumerate([(one, other), (other, one)]):
        for standing, takes, gives, goal in mine.reactions():
            if standing != pair[at]:
                continue
            told = answer(yours, pair[1 - at], takes)
            flows = tuple((gives[line],) if line in gives else () for line in mine.outs)
            if told is None or told[1] != flows:
                return None
            found.append((goal, told[0]) if at == 0 else (told[0], goal))
    return found


def pairs_by_hand(one, other, first=(0, 0)):
    found, waiting = {first}, [first]
    while waiting:
        more = behind_by_hand(one, other, waiting.pop())
        if more is None:
            return None
        for pair in more:
            if pair not in found:
                found.add(pair)
                waiting.append(pair)
    return sorted(found)


def are_pairs_by_hand(one, other, value):
    if not is_alike(one) or not is_alike(other) or not isinstance(value, (list, tuple)):
        return False
    for pair in value:
        if not isinstance(pair, tuple) or len(pair) != 2 or not are_strict(pair):
            return False
        if pair[0] not in one.reached() or pair[1] not in other.reached():
            return False
    if (0, 0) not in value or len(set(value)) < len(value):
        return False
    told = [behind_by_hand(one, other, pair) for pair in value]
    return None not in told and all(later in value for more in told for later in more)


def is_shown_by_hand(one, other, value):
    if not is_alike(one) or not is_alike(other) or not isinstance(value, dict) or not are_strict(value):
        return False
    for line, stream in value.items():
        if line not in one.ins or not isinstance(stream, (list, tuple)):
            return False
        if not all(isinstance(worth, int) and 0 <= worth <= 9 for worth in stream):
            return False
    return told_from(one, 0, value) != told_from(other, 0, value)


def some_alike(rng):
    """An alike machine, sometimes with many like standings."""
    while True:
        machine = rng.choice([strict, strict, loose])(rng)
        machine = doubled(rng, machine) if rng.random() < 0.4 else machine
        if is_alike(machine):
            return machine


def some_two(rng):
    """Two alike machines with the same lines."""
    while True:
        one = some_alike(rng)
        draw = rng.random()
        if draw < 0.3:
            other = doubled(rng, one) if one.standings <= 6 and len(one) <= 20 else filled(one)
        elif draw < 0.45:
            other = least(one)
        elif draw < 0.55:
            other = filled(one)
        elif draw < 0.75 and len(one) > 0:
            other = one - rng.randrange(len(one))
        elif draw < 0.85:
            other = begun_at(one, rng.randrange(one.standings))
        else:
            other = some_alike(rng)
        if is_alike(other) and one.ins == other.ins and one.outs == other.outs:
            return one, other


class Interface(Case):
    def test_what_is_listed_is_defined_there_with_its_names(self):
        self.listed(like, PARAMETERS)

    def test_examples(self):
        self.assertEqual(
            [
                classes(twice()),
                least(twice()),
                tells_same(twice(), least(twice())),
                tells_same(free(), filled(free())),
            ],
            [[[0, 1]], Machine(["a"], ["o"], 1, [(0, {"a": 0}, {"o": 1}, 0)]), True, True],
        )

    def test_arguments_by_name(self):
        one, other = twice(), wheel([1, 2])
        self.assertIs(are_like(other=1, one=0, machine=one), True)
        self.assertEqual([classes(machine=one), len(least(machine=one))], [[[0, 1]], 1])
        self.assertIs(tells_same(other=other, one=one), False)
        self.assertIsNone(pairs_of(other=other, one=one))
        self.assertIs(are_pairs(value=[(0, 0), (1, 1)], other=one, one=one), True)
        self.assertEqual(shown(other=other, one=one), {"a": [0, 0]})
        self.assertIs(is_shown(value={"a": [0, 0]}, other=other, one=one), True)


class Standings(Case):
    def test_against_all_small_streams(self):
        rng = random.Random(51)
        many = {True: 0, False: 0}
        for _ in range(60):
            machine = some_alike(rng)
            told = {standing: all_told(machine, standing, 3) for standing in machine.reached()}
            for one, other in itertools.product(machine.reached(), repeat=2):
                is_it = are_like(machine, one, other)
                many[is_it] += 1
                if is_it:
                    self.assertEqual(told[one], told[other])
                else:
                    streams = shown(begun_at(machine, one), begun_at(machine, other))
                    self.assertNotEqual(told_from(machine, one, streams), told_from(machine, other, streams))
                self.assertIs(pairs_by_hand(machine, machine, (one, other)) is not None, is_it)
        self.assertGreater(min(many.values()), 100)

    def test_classes(self):
        rng = random.Random(510)
        for _ in range(60):
            machine = some_alike(rng)
            told = classes(machine)
            self.assertEqual(sorted(standing for row in told for standing in row), machine.reached())
            self.assertEqual(told, sorted(sorted(row) for row in told))
            for place, row in enumerate(told):
                for standing in machine.reached():
                    self.assertIs(are_like(machine, row[0], standing), standing in row, (machine, place))

    def test_rests_tell(self):
        # Both give nothing; one takes the line, the other does not.
        machine = Machine(["a", "b"], [], 3, [(0, {"a": 0}, {}, 1), (0, {"a": 1}, {}, 2), (1, {"b": 0}, {}, 1)])
        self.assertEqual(classes(machine), [[0], [1], [2]])
        self.assertIs(are_like(machine, 1, 2), False)

    def test_one_beat_may_answer_by_several(self):
        one = free()
        self.assertEqual(pairs_of(one, filled(one)), [(0, 0)])
        rows = [(0, {"a": 0, "b": 0}, {"o": 1, "p": 2}, 0)]
        joined = Machine(["a", "b"], ["o", "p"], 2, rows)
        apart = Machine(["a", "b"], ["o", "p"], 2, [(0, {"a": 0}, {"o": 1}, 1), (1, {"b": 0}, {"p": 2}, 0)])
        # By a alone the one gives, the other does not.
        self.assertIs(tells_same(joined, apart), False)
        told = shown(joined, apart)
        self.assertIs(is_shown(joined, apart, told), True)
        self.assertIs(is_shown(joined, apart, {"a": [0]}), True)
        self.assertIs(is_shown(joined, apart, {"a": [0], "b": [0]}), False)

    def test_twelve_standings(self):
        machine = wheel([1] * 12)
        self.assertEqual(classes(machine), [list(range(12))])
        self.assertEqual(classes(wheel([1, 2, 3] * 4)), [[0, 3, 6, 9], [1, 4, 7, 10], [2, 5, 8, 11]])
        self.assertEqual(classes(wheel([1] * 11 + [0])), [[at] for at in range(12)])
        self.assertEqual(classes(wheel([1] * 11 + [0], back=3)), [[at] for at in range(12)])
        self.assertEqual(classes(wheel([None] * 12, tuple("abcd"))), [list(range(12))])

    def test_without_reactions(self):
        machine = Machine(["a"], [], 12, [])
        self.assertEqual([classes(machine), least(machine)], [[[0]], Machine(["a"], [], 1, [])])
        self.assertIs(are_like(machine, 0, 0), True)

    def test_refused(self):
        machine, not_alike = Machine(["a"], [], 3, [(0, {"a": 0}, {}, 2)]), Machine(["a"], [], 3, race_on_a())
        for value in [*odd_values(), -1, 3, "0", [0], (0,), {}, 10**29]:
            for target in (machine, not_alike):
                for other in (0, 1, value, "wrong, too"):
                    self.refused(InvalidStanding, {"value": value}, are_like, target, value, other)
                self.refused(InvalidStanding, {"value": value}, are_like, target, 0, value)
                self.refused(InvalidStanding, {"value": value}, are_like, target, 1, value)
        self.refused(NotReached, {"value": 1}, are_like, machine, 0, 1)
        self.refused(NotReached, {"value": 1}, are_like, machine, 1, 2)
        self.refused(NotReached, {"value": 1}, are_like, machine, 1, 1)
        two = Machine(["a"], [], 3, [])
        self.refused(NotReached, {"value": 2}, are_like, two, 2, 1)
        for one, other in [(0, 0), (0, 1), (1, 0), (2, 2)]:
            self.refused(NotAlike, {"which": 0}, are_like, not_alike, one, other)
        for function in (classes, least):
            self.refused(NotAlike, {"which": 0}, function, race())
            self.refused(NotAlike, {"which": 0}, function, not_alike)


def race_on_a():
    return [(0, {"a": 0}, {}, 0), (0, {"a": 0}, {}, 2)]


class Least(Case):
    def test_it_tells_the_same_with_the_fewest_standings(self):
        rng = random.Random(53)
        fewer = 0
        for _ in range(150):
            machine = some_alike(rng)
            told = least(machine)
            self.assertEqual(told.standings, len(classes(machine)))
            self.assertEqual([told.ins, told.outs], [machine.ins, machine.outs])
            self.assertIs(is_alike(told), True)
            self.assertIs(tells_same(machine, told), True)
            self.assertEqual(least(told), told)
            self.assertEqual(classes(told), [[at] for at in range(told.standings)])
            self.assertEqual(all_told(machine, 0, 3), all_told(told, 0, 3))
            fewer += told.standings < len(machine.reached())
        self.assertGreater(fewer, 30)

    def test_its_reactions_are_those_of_the_least_standings(self):
        rows = [(3, {"a": 0}, {"o": 1}, 3), (2, {"a": 0}, {"o": 2}, 1), (0, {"a": 0}, {"o": 0}, 2)]
        rows += [(1, {"a": 0}, {"o": 1}, 1), (2, {"a": 1}, {}, 3), (4, {"a": 0}, {}, 4), (0, {"a": 7}, {}, 3)]
        machine = Machine(["a"], ["o"], 5, rows)
        self.assertEqual(classes(machine), [[0], [1, 3], [2]])
        self.assertEqual(
            least(machine).reactions(),
            [
                (2, {"a": 0}, {"o": 2}, 1),
                (0, {"a": 0}, {"o": 0}, 2),
                (1, {"a": 0}, {"o": 1}, 1),
                (2, {"a": 1}, {}, 1),
                (0, {"a": 7}, {}, 1),
            ],
        )

    def test_no_alike_machine_with_fewer_standings_tells_the_same(self):
        # All machines of one and two standings with one in-line, one worth and two gives.
        def all_of(standings):
            choices = [None, *itertools.product([{}, {"o": 0}], range(standings))]
            for chosen in itertools.product(choices, repeat=standings):
                rows = [(at, {"a": 0}, *choice) for at, choice in enumerate(chosen) if choice is not None]
                yield Machine(["a"], ["o"], standings, rows)

        for machine in all_of(3):
            many = least(machine).standings
            for standings in (1, 2):
                is_any = any(tells_same(machine, other) for other in all_of(standings))
                self.assertIs(is_any, many <= standings)

    def test_forty_reactions_and_four_lines(self):
        machine = Machine(list("abcd"), [], 1, forty())
        self.assertEqual([classes(machine), least(machine)], [[[0]], machine])
        rows = [(at, {"a": k}, {"o": k}, (at + k) % 4) for at in range(4) for k in range(10)]
        machine = Machine(["a"], ["o"], 4, rows)
        self.assertEqual(classes(machine), [[0, 1, 2, 3]])
        self.assertEqual(least(machine).reactions(), [(0, {"a": k}, {"o": k}, 0) for k in range(10)])


class Two(Case):
    def test_against_the_words_of_the_document(self):
        rng = random.Random(52)
        many = {True: 0, False: 0}
        for _ in range(150):
            one, other = some_two(rng)
            is_it = tells_same(one, other)
            many[is_it] += 1
            self.assertEqual(pairs_of(one, other), pairs_by_hand(one, other))
            told = shown(one, other)
            if is_it:
                self.assertIsNone(told)
                self.assertIs(are_pairs(one, other, pairs_of(one, other)), True)
                self.assertEqual(all_told(one, 0, 3), all_told(other, 0, 3))
            else:
                self.assertIsNone(pairs_of(one, other))
                self.assertLessEqual(sum(map(len, told.values())), 100)
                self.assertIs(is_shown(one, other, told), True)
                self.assertNotEqual(told_from(one, 0, told), told_from(other, 0, told))
        self.assertGreater(min(many.values()), 30)

    def test_is_shown_against_doing_everything(self):
        rng = random.Random(520)
        for _ in range(25):
            one, other = some_two(rng)
            for streams in small_streams(one, 3):
                self.assertIs(is_shown(one, other, streams), is_shown_by_hand(one, other, streams))

    def test_are_pairs_against_the_words(self):
        rng = random.Random(521)
        right = wrong = further = 0
        while min(right, wrong, further) < 25:
            one, other = some_two(rng)
            told = pairs_of(one, other) or [(0, 0)]
            all_pairs = list(itertools.product(range(one.standings), range(other.standings)))
            for _ in range(6):
                value = told + rng.sample(all_pairs, min(len(all_pairs), rng.randint(0, 2)))
                rng.shuffle(value)
                expected = are_pairs_by_hand(one, other, value)
                self.assertIs(are_pairs(one, other, value), expected, (one, other, value))
                right, wrong = right + expected, wrong + (not expected)
                further += expected and len(value) > len(told)

    def test_the_same_with_unlike_standings(self):
        # The ends are at unlike standings: only rests and flows tell.
        one, other = twice(), wheel([1, 1, 1])
        self.assertIs(tells_same(one, other), True)
        self.assertEqual(pairs_of(one, other), sorted(itertools.product(range(2), range(3))))
        self.assertIs(is_shown(one, other, {"a": [0]}), False)
        self.assertNotEqual(end(one, {"a": [0, 0]}), end(other, {"a": [0, 0]}))
        self.assertIsNone(shown(one, other))

    def test_unlike_in_rests_or_flows_alone(self):
        rests = Machine(["a"], ["o"], 1, [(0, {"a": 0}, {}, 0)]), Machine(["a"], ["o"], 1, [])
        self.assertIs(tells_same(*rests), False)
        self.assertEqual(shown(*rests), {"a": [0]})
        self.assertIs(is_shown(*rests, {"a": [0, 0, 0]}), True)
        self.assertIs(is_shown(*rests, {"a": [1, 0]}), False)
        flows = wheel([3]), wheel([4])
        self.assertEqual(shown(*flows), {"a": [0]})
        # The same worths, given at unlike times, part them only by streams that end between.
        later = wheel([None, 3], back=1), wheel([3])
        self.assertIs(tells_same(*later), False)
        self.assertIs(is_shown(*later, shown(*later)), True)

    def test_likeness_that_parts_only_after_long_streams(self):
        # Words of the periods 12 and 11 that are the same for 21 worths, and unlike at the next.
        word = periodic(12, 11)
        self.assertEqual([word[at] == word[at % 12] for at in range(21)], [True] * 21)
        for lines in (("a",), tuple("abcd")):
            one, other = wheel(word[:12], lines), wheel(word[:11], lines)
            self.assertIs(tells_same(one, other), False)
            self.assertIsNone(pairs_of(one, other))
            told = shown(one, other)
            self.assertIs(is_shown(one, other, told), True)
            self.assertLessEqual(sum(map(len, told.values())), 100)
            self.assertGreaterEqual(min(map(len, told.values())), 22)
            self.assertIs(is_shown(one, other, {line: [0] * 21 for line in lines}), False)
            self.assertIs(is_shown(one, other, {line: [0] * 22 for line in lines}), True)
            self.assertIs(is_shown(one, other, {line: [0] * 2000 for line in lines}), True)
            self.assertIs(tells_same(one, wheel(word[:12], lines)), True)

    def test_many_letters_on_the_way(self):
        # A counter that only one of ten worths drives, and that tells nothing until the last.
        def counter(many, last):
            rows = [(at, {"a": k}, {}, at + 1 if k == 9 - at % 3 else 0) for at in range(many) for k in range(7, 10)]
            return Machine(["a"], ["o"], many + 1, [*rows, (many, {"a": 0}, {"o": last}, 0)])

        one, other = counter(11, 1), counter(11, 2)
        self.assertIs(tells_same(one, other), False)
        told = shown(one, other)
        self.assertIs(is_shown(one, other, told), True)
        self.assertEqual(told, {"a": [9 - at % 3 for at in range(11)] + [0]})
        self.assertEqual(len(classes(one)), 12)
        self.assertIs(tells_same(one, counter(11, 1)), True)

    def test_unreached_standings_do_not_count(self):
        rows = [(0, {"a": 0}, {"o": 1}, 0), (1, {"a": 0}, {"o": 2}, 1), (1, {"a": 0}, {}, 0)]
        one, other = Machine(["a"], ["o"], 2, rows), wheel([1])
        self.assertIs(tells_same(one, other), True)
        self.assertEqual(pairs_of(one, other), [(0, 0)])
        self.assertIs(are_pairs(one, other, [(0, 0), (1, 0)]), False)
        self.assertEqual(least(one), other)

    def test_without_reactions(self):
        one, other = Machine(["a"], [], 1, []), Machine(["a"], [], 12, [])
        self.assertEqual([tells_same(one, other), pairs_of(one, other), shown(one, other)], [True, [(0, 0)], None])
        self.assertIs(are_pairs(one, other, [(0, 0)]), True)
        self.assertIs(is_shown(one, other, {}), False)

    def test_other_lines(self):
        base = free()
        others = [
            base.renamed({"a": "x"}),
            base.renamed({"o": "x"}),
            Machine(["b", "a"], ["o"], 1, base.reactions()),
            Machine(["a", "b", "c"], ["o"], 1, base.reactions()),
            Machine(["a", "b"], ["o", "p"], 1, base.reactions()),
            Machine(["a"], ["o"], 1, []),
            race().renamed({"b": "c"}),
        ]
        for other in others:
            for one, more in ((base, other), (other, base)):
                for function, rest in OF_TWO:
                    self.refused(OtherLines, {"one": one, "other": more}, function, one, more, *rest)
        sequence = Machine(["a"], ["o", "p"], 1, []), Machine(["a"], ["p", "o"], 1, [])
        for function, rest in OF_TWO:
            self.refused(OtherLines, {"one": sequence[0], "other": sequence[1]}, function, *sequence, *rest)
        self.refused(OtherLines, {"one": race(), "other": others[0]}, tells_same, race(), others[0])

    def test_not_alike(self):
        for function in (tells_same, pairs_of, shown):
            self.refused(NotAlike, {"which": 0}, function, race(), free())
            self.refused(NotAlike, {"which": 1}, function, free(), race())
            self.refused(NotAlike, {"which": 0}, function, race(), race())
        for one, other in ((race(), free()), (free(), race()), (race(), race())):
            for value in ([(0, 0)], [(0, 0), (1, 1)], None, []):
                self.assertIs(are_pairs(one, other, value), False)
            for value in ({"a": [0]}, {"b": [0]}, {}, None):
                self.assertIs(is_shown(one, other, value), False)


def periodic(one, other):
    """The longest word with both periods, which have no common divisor, that is not all the same."""
    many = one + other - 2
    names = list(range(many))
    for period in (one, other):
        for at in range(many - period):
            low, high = sorted((names[at], names[at + period]))
            names = [low if name == high else name for name in names]
    return [int(name != names[0]) for name in names]


class Papers(Case):
    def test_pairs_that_are_spoiled(self):
        rng = random.Random(522)
        right = wrong = 0
        for _ in range(50):
            one, other = some_two(rng)
            value = pairs_of(one, other)
            if value is None or len(value) > 6:
                continue
            for told in spoiled(value):
                expected = are_pairs_by_hand(one, other, told)
                self.assertIs(are_pairs(one, other, told), expected, (one, other, told))
                right, wrong = right + expected, wrong + (not expected)
        self.assertGreater(wrong, 500)
        self.assertGreater(right, 10)

    def test_no_pairs(self):
        one = twice()
        for value in [[(0, 0), (1, 1)], ((1, 1), (0, 0)), list(itertools.product(range(2), repeat=2))]:
            self.assertIs(are_pairs(one, one, value), True)
        wrong = [*odd_values(), 0, "", {}, {(0, 0): 1, (1, 1): 1}, [], (), [(0, 0)], [(1, 1)], [(0, 0), (1, 0)]]
        wrong += [[(0, 0), (1, 1), (0, 0)], [(0, 0), (1, 1), (0, 1)], [[0, 0], [1, 1]], [(0, 0), [1, 1]]]
        wrong += [[(0, 0), (True, 1)], [(0, 0), (1, True)], [(False, 0), (1, 1)], [(0, 0), (1, 1), (2, 0)]]
        wrong += [[(0, 0), (1, 1), (-1, 0)], [(0, 0), (1, 1, 1)], [(0, 0), (1,)], [(0, 0), (1, 1), None]]
        wrong += [[(0, 0), (1, 1), value] for value in odd_values()]
        wrong += [[(0, 0), (1, 1), (0, value)] for value in odd_values()]
        wrong += [{(0, 0), (1, 1)}, range(2), [(0, 0), ("1", "1")], [(0, 0), (1, 1), (0, 10**29)]]
        for value in wrong:
            self.assertIs(are_pairs(one, one, value), False)
        self.assertIs(are_pairs(one, wheel([1, 2]), [(0, 0), (1, 1)]), False)

    def test_further_pairs_must_hold_as_well(self):
        one = wheel([1, 2, 1, 2])
        least_ones = [(at, at) for at in range(4)]
        self.assertEqual(pairs_of(one, one), least_ones)
        self.assertIs(are_pairs(one, one, least_ones + [((at + 2) % 4, at) for at in range(4)]), True)
        self.assertIs(are_pairs(one, one, least_ones + [(2, 0)]), False)
        self.assertIs(are_pairs(one, one, least_ones + [((at + 1) % 4, at) for at in range(4)]), False)

    def test_shown_that_are_spoiled(self):
        rng = random.Random(523)
        right = wrong = 0
        for _ in range(60):
            one, other = some_two(rng)
            value = shown(one, other)
            if value is None:
                continue
            for told in spoiled(value):
                expected = is_shown_by_hand(one, other, told)
                self.assertIs(is_shown(one, other, told), expected, (one, other, told))
                right, wrong = right + expected, wrong + (not expected)
        self.assertGreater(wrong, 300)
        self.assertGreater(right, 50)

    def test_not_shown(self):
        one = Machine(["a", "b"], ["o"], 1, [(0, {"a": 0}, {"o": 1}, 0), (0, {"b": 0}, {}, 0)])
        other = one - 0
        for value in [{"a": [0]}, {"a": (0,)}, {"b": [0], "a": [0, 4]}, {"a": [0] * 2000, "b": [0] * 2000}]:
            self.assertIs(is_shown(one, other, value), True)
        wrong = [*wrong_streams(), {}, {"a": []}, {"b": [0]}, {"a": [1, 0]}, {"a": [False]}, {"a": [0], "o": []}]
        wrong += [{"b": [0], Same(): [0]}, {"a": [0], "b": [Same()]}, [("a", [0])], ({"a": [0]},)]
        for value in wrong:
            self.assertIs(is_shown(one, other, value), False)

    def test_keys_of_shown_streams_are_in_sequence(self):
        one = Machine(["z", "a", "m"], [], 1, [(0, {"a": 1, "z": 2}, {}, 0)])
        told = shown(one, Machine(["z", "a", "m"], [], 1, []))
        self.assertEqual(dict_order(told), [("z", [2]), ("a", [1])])


class Kept(Case):
    def test_what_is_passed_stays(self):
        one, pairs, streams = twice(), [(1, 1), (0, 0)], {"a": (0, 0)}
        kept = copy.deepcopy([pairs, streams])
        are_pairs(one, one, pairs)
        is_shown(one, wheel([1, 2]), streams)
        least(one)
        self.assertEqual([pairs, streams, one], [*kept, twice()])

    def test_what_is_told_is_new_also_inside(self):
        one, other = twice(), wheel([1, 2])
        told = [classes(one), pairs_of(one, one), shown(one, other), least(one).reactions()]
        kept = copy.deepcopy(told)
        told[0][0].append(5)
        told[0].clear()
        told[1].clear()
        told[2]["a"].append(5)
        told[3][0][1].clear()
        self.assertEqual([classes(one), pairs_of(one, one), shown(one, other), least(one).reactions()], kept)
        self.assertEqual([one, other], [twice(), wheel([1, 2])])

    def test_kinds_of_what_is_told(self):
        one, other = twice(), wheel([1, 2])
        self.assertEqual([type(classes(one)), type(classes(one)[0]), type(least(one))], [list, list, Machine])
        self.assertEqual([type(pairs_of(one, one)), type(pairs_of(one, one)[0])], [list, tuple])
        self.assertEqual([type(shown(one, other)), type(shown(one, other)["a"])], [dict, list])
        self.assertIs(are_like(one, 0, 1), True)
        self.assertIs(tells_same(one, other), False)


if __name__ == "__main__":
    unittest.main()
