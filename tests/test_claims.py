"""Claims, whether they are true, and their papers."""

import copy
import itertools
import random
import time
import unittest

from loosebeats import claims
from loosebeats.alike import are_closings, closings, is_alike, is_quarrel
from loosebeats.claims import is_claim, is_paper, is_true, paper_of
from loosebeats.errors import InvalidClaim
from loosebeats.leads import are_heights, greatest_lead, is_ring
from loosebeats.like import are_pairs, is_shown, tells_same
from loosebeats.machines import Machine
from loosebeats.rounds import is_live, ranks, strands
from loosebeats.runs import ends, is_full, run_end
from loosebeats.smooth import filled, is_rough_place, is_smooth
from loosebeats.stores import Pair, are_always_enough, is_standstill
from samples import (
    Case,
    Same,
    all_ends,
    are_strict,
    brute_full,
    dict_order,
    free,
    loose,
    made_up,
    odd_values,
    pair_tables,
    race,
    small_streams,
    some_pair,
    spoiled,
    strict,
    wrong_streams,
)

ONE_EACH = {"a": [0], "b": [0]}
END = (1, ((), ()), ((0,),))

PARAMETERS = {
    "is_claim": ["value"],
    "is_true": ["claim"],
    "paper_of": ["claim"],
    "is_paper": ["claim", "value"],
}


def easy():
    return Pair(free(), Machine(["o"], ["p"], 1, [(0, {"o": 1}, {"p": 3}, 0)]))


def slow():
    return Pair(free(), Machine(["o", "c"], [], 1, [(0, {"c": 0, "o": 1}, {}, 0)]))


def other_free():
    """It has the lines of free, is alike, and tells something else."""
    return Machine(["a", "b"], ["o"], 1, [(0, {"a": 0}, {"o": 2}, 0), (0, {"b": 0}, {}, 0)])


def good_claims():
    """One of each kind that is true, with a paper, and one that is not."""
    return [
        (("alike", free()), {(0, 1): ([1], [0])}, ("alike", race())),
        (("quarrel", race()), (ONE_EACH, [0, 2], [1, 0]), ("quarrel", free())),
        (("rough", free()), ([], 0, 1), ("rough", filled(free()))),
        (("same", free(), filled(free())), [(0, 0)], ("same", free(), other_free())),
        (("other", free(), other_free()), {"a": [0]}, ("other", free(), filled(free()))),
        (("can end", race(), ONE_EACH, END), [1, 0], ("can end", race(), {"a": [0]}, END)),
        (("lead", race(), "a", "b", 1), {0: 0, 1: 1}, ("lead", race(), "a", "b", 0)),
        (("endless", race(), "b", "a"), ([], [1]), ("endless", race(), "a", "b")),
        (("standstill", slow(), (1,)), ({"a": [0, 0]}, [(0, 0)]), ("standstill", easy(), (1,))),
        (("enough", easy(), (1,)), [(0, 0, ((),)), (0, 0, ((1,),))], ("enough", slow(), (1,))),
        (("live", race(), "b"), {0: 1, 1: 1}, ("live", race(), "a")),
        (("stranded", race(), "a"), [0], ("stranded", race(), "b")),
    ]


def is_cover_by_hand(pair, sizes, value):
    """Whether a value is a paper of ("enough", pair, sizes), by its words."""
    if not isinstance(value, (list, tuple)) or not are_strict(value):
        return False
    for node in value:
        if type(node) is not tuple or len(node) != 3 or type(node[2]) is not tuple or len(node[2]) != len(sizes):
            return False
        one, other, contents = node
        if type(one) is not int or not 0 <= one < pair.first.standings:
            return False
        if type(other) is not int or not 0 <= other < pair.second.standings:
            return False
        for content, size in zip(contents, sizes):
            if type(content) is not tuple or len(content) > size:
                return False
            if not all(type(worth) is int and 0 <= worth <= 9 for worth in content):
                return False
    if len(set(value)) < len(value) or (0, 0, ((),) * len(sizes)) not in value:
        return False
    return all(set(behind_by_hand(pair, sizes, node)) <= set(value) and not stalls(pair, sizes, node) for node in value)


def placed_by_hand(pair, sizes, node, number):
    """Gives to stores, with whether there is room for them."""
    inside = dict(zip(pair.stores, node[2]))
    puts = {line: worth for line, worth in pair.first[number][2].items() if line in inside}
    return puts, all(len(inside[line]) < size for line, size in zip(pair.stores, sizes) if line in puts)


def behind_by_hand(pair, sizes, node):
    one, other, contents = node
    inside = dict(zip(pair.stores, contents))
    for number in pair.first.at(one):
        puts, room = placed_by_hand(pair, sizes, node, number)
        if room:
            later = (inside[line] + ((puts[line],) if line in puts else ()) for line in pair.stores)
            yield (pair.first[number][3], other, tuple(later))
    for number in pair.second.at(other):
        _, takes, _, goal = pair.second[number]
        draws = {line: worth for line, worth in takes.items() if line in inside}
        if all(inside[line][:1] == (worth,) for line, worth in draws.items()):
            yield (one, goal, tuple(inside[line][1:] if line in draws else inside[line] for line in pair.stores))


def stalls(pair, sizes, node):
    """Whether a reaction lacks room, while by just what it takes nothing can be done."""
    one, other, contents = node
    inside = dict(zip(pair.stores, contents))
    for number in pair.first.at(one):
        needs = pair.first[number][1]
        if placed_by_hand(pair, sizes, node, number)[1]:
            continue
        able = any(
            pair.first[n][1].items() <= needs.items() and placed_by_hand(pair, sizes, node, n)[1]
            for n in pair.first.at(one)
        )
        able = able or any(
            all(line in inside and inside[line][:1] == (worth,) for line, worth in pair.second[n][1].items())
            for n in pair.second.at(other)
        )
        if not able:
            return True
    return False


def are_ranks_by_hand(machine, line, value):
    return isinstance(value, dict) and are_strict(value) and value == ranks(machine, line)


def ends_so_by_hand(machine, streams, end, value):
    if not isinstance(value, (list, tuple)) or not are_strict(value):
        return False
    return (list(value), end) in brute_full(machine, streams)


def judged(claim, value):
    """Whether a value is a paper of a claim, by the functions of each kind or by hand."""
    word, *rest = claim
    calls = {
        "alike": are_closings,
        "quarrel": is_quarrel,
        "rough": is_rough_place,
        "same": are_pairs,
        "other": is_shown,
        "can end": ends_so_by_hand,
        "lead": lambda *told: told[3] >= 0 and are_heights(*told),
        "endless": is_ring,
        "standstill": is_standstill,
        "enough": is_cover_by_hand,
        "live": are_ranks_by_hand,
        "stranded": strands,
    }
    return calls[word](*rest, value)


def truth(claim):
    """Whether a claim is true, by what its kind asks."""
    word, *rest = claim
    both = {
        "alike": lambda machine: is_alike(machine),
        "quarrel": lambda machine: not is_alike(machine),
        "rough": lambda machine: not is_smooth(machine),
        "same": lambda one, other: is_alike(one) and is_alike(other) and tells_same(one, other),
        "other": lambda one, other: is_alike(one) and is_alike(other) and not tells_same(one, other),
        "can end": lambda machine, streams, end: end in all_ends(machine, streams),
        "lead": lambda machine, one, other, number: (greatest_lead(machine, one, other) or 0) <= number
        and greatest_lead(machine, one, other) is not None,
        "endless": lambda machine, one, other: greatest_lead(machine, one, other) is None,
        "standstill": lambda pair, sizes: not are_always_enough(pair, sizes),
        "enough": lambda pair, sizes: are_always_enough(pair, sizes),
        "live": lambda machine, line: is_live(machine, line),
        "stranded": lambda machine, line: not is_live(machine, line),
    }
    return both[word](*rest)


def some_claims(rng):
    """Claims of all kinds about small machines."""
    one, two = loose(rng), made_up(rng)[0]
    pair = some_pair(rng)
    lines = one.ins + one.outs
    streams = {line: [int(rng.random() < 0.2) for _ in range(rng.randint(0, 2))] for line in one.ins}
    found = [(word, machine) for word in ("alike", "quarrel", "rough") for machine in (one, two)]
    alike, other = strict(rng, 2), strict(rng, 2)
    twins = [(alike, other), (alike, filled(alike)), (one, one), (one, one - 0), (race(), race()), (free(), race())]
    found += [(word, *both) for word in ("same", "other") for both in twins]
    some_ends = sorted(all_ends(one, streams)) + [(0, tuple(() for _ in one.ins), tuple(() for _ in one.outs))]
    found += [("can end", one, streams, end) for end in some_ends]
    found += [("lead", one, *rng.choices(lines, k=2), rng.randint(-2, 2)) for _ in range(4)]
    found += [("endless", one, *rng.choices(lines, k=2)) for _ in range(3)]
    sizes = tuple(rng.randint(1, 2) for _ in pair.stores)
    found += [("standstill", pair, sizes), ("enough", pair, sizes)]
    return found + [(word, one, line) for word in ("live", "stranded") for line in lines]


class Interface(Case):
    def test_what_is_listed_is_defined_there_with_its_names(self):
        self.listed(claims, PARAMETERS)

    def test_arguments_by_name(self):
        claim = ("stranded", race(), "a")
        self.assertEqual([is_claim(value=claim), is_true(claim=claim), paper_of(claim=claim)], [True, True, [0]])
        self.assertIs(is_paper(value=[0], claim=claim), True)


class Claims(Case):
    def test_each_kind_true_and_not_true(self):
        self.assertEqual(len(good_claims()), 12)
        for claim, paper, wrong in good_claims():
            self.assertEqual([is_claim(claim), is_claim(wrong)], [True, True])
            self.assertEqual([is_true(claim), is_true(wrong)], [True, False], claim)
            self.assertIs(is_paper(claim, paper), True)
            self.assertIs(is_paper(claim, paper_of(claim)), True)
            self.assertIsNone(paper_of(wrong))
            self.assertIs(is_paper(wrong, paper), False)
            self.assertIs(type(is_true(claim)), bool)

    def test_no_claims(self):
        twelve = [claim for claim, _, _ in good_claims()]
        wrong = [*odd_values(), 0, "", "alike", [], (), {}, ("alike",), (race(),), (0, race()), (None, race()), (race(), "alike")]
        wrong += [(value, race()) for value in odd_values()]
        for claim in twelve:
            word, *rest = claim
            wrong += [list(claim), claim[:-1], (*claim, 0), (*claim, None), (*claim, race()), (word,), (word, *rest[::-1], 0)]
            wrong += [(changed, *rest) for changed in (word + " ", word[:-1], word.upper(), " " + word, "", word.encode())]
            for at in range(1, len(claim)):
                for value in [*odd_values(), "zz", [], {}, (), b"a", "", [race()], (race(),), {"o": [0]}]:
                    if not fits(word, at, value):
                        wrong.append((*claim[:at], value, *claim[at + 1 :]))
                wrong.append((*claim[:at], *claim[at + 1 :]))
        for value in wrong:
            self.assertIs(is_claim(value), False, value)
            self.refused(InvalidClaim, {"value": value}, is_true, value)
            self.refused(InvalidClaim, {"value": value}, paper_of, value)
            self.refused(InvalidClaim, {"value": value}, is_paper, value, [])

    def judge(self, claim, right):
        self.assertIs(is_claim(claim), right, claim)
        if not right:
            self.refused(InvalidClaim, {"value": claim}, is_true, claim)

    def test_machines_and_pairs_are_not_one_for_the_other(self):
        for word in ("alike", "quarrel", "rough"):
            self.judge((word, easy()), False)
        for word in ("standstill", "enough"):
            self.judge((word, race(), (1,)), False)
        self.judge(("live", easy(), "a"), False)
        self.judge(("same", easy(), easy()), False)

    def test_two_machines_with_the_same_lines(self):
        for word in ("same", "other"):
            self.judge((word, free(), race()), True)
            self.judge((word, free(), free().renamed({"a": "b", "b": "a"})), False)
            self.judge((word, free(), Machine(["a", "b"], [], 1, [])), False)
            self.judge((word, Machine(["a"], ["o", "p"], 1, []), Machine(["a"], ["p", "o"], 1, [])), False)
            self.judge((word, Machine(["a"], [], 1, []), Machine(["a"], [], 12, [])), True)

    def test_lines(self):
        for line in ("a", "b", "o"):
            self.judge(("live", race(), line), True)
            self.judge(("endless", race(), line, "o"), True)
            self.judge(("lead", race(), "a", line, 0), True)
        for line in [*odd_values(), "c", "", 0, ["a"], ("a",), "A"]:
            for claim in [("live", race(), line), ("stranded", race(), line), ("endless", race(), line, "a")]:
                self.judge(claim, False)
            for claim in [("endless", race(), "a", line), ("lead", race(), line, "a", 0), ("lead", race(), "a", line, 0)]:
                self.judge(claim, False)

    def test_numbers(self):
        for number in (0, 1, -1, 10**29, -(10**29)):
            self.judge(("lead", race(), "a", "b", number), True)
            self.assertIs(is_true(("lead", race(), "a", "b", number)), number >= 1)
            self.assertIs(is_true(("lead", race(), "b", "a", number)), False)
            self.assertIs(is_paper(("lead", race(), "a", "a", number), {0: 0, 1: 0}), number >= 0)
        for number in [*odd_values(), "1", [1], (1,), {}]:
            self.judge(("lead", race(), "a", "b", number), False)

    def test_sizes(self):
        for word in ("standstill", "enough"):
            for size in (1, 2, 3):
                self.judge((word, easy(), (size,)), True)
            for sizes in [*odd_values(), 1, (), (0,), (4,), (None,), (True,), [1], (1, 1), ("1",), ((1,),), {1: 1}, (Same(),)]:
                self.judge((word, easy(), sizes), False)
        rows = [(0, {"a": 0}, {"o": 0}, 0), (0, {"a": 1}, {"p": 0}, 0)]
        pair = Pair(Machine(["a"], ["o", "p"], 1, rows), Machine(["p", "o"], [], 1, []))
        for sizes, right in [((1, 3), True), ((1, None), False), ((1,), False), ((3, 3, 3), False)]:
            self.judge(("enough", pair, sizes), right)

    def test_more_than_two_thousand_contents(self):
        rows = [(0, {"a": w}, {"o": w}, 0) for w in range(7)]
        for many, right in ((5, True), (6, False)):
            second = Machine(["o", "c"], [], many, [(k, {"c": 0}, {}, k + 1) for k in range(many - 1)])
            pair = Pair(Machine(["a"], ["o"], 1, rows), second)
            for word in ("standstill", "enough"):
                self.judge((word, pair, (3,)), right)
                self.judge((word, pair, (2,)), True)
        self.assertIs(is_true(("enough", pair, (2,))), False)
        just = Pair(Machine(["a"], ["o"], 1, rows), Machine(["o", "c"], [], 5, second.reactions()[:4]))
        eater = just.second
        for worth in range(7):
            eater = Machine(["o", "c"], [], 5, eater.reactions() + [(k, {"o": worth}, {}, k) for k in range(5)])
        claim = ("enough", Pair(just.first, eater), (3,))
        self.assertEqual([len(paper_of(claim)), is_paper(claim, paper_of(claim))], [2000, True])
        self.assertIs(is_paper(claim, paper_of(claim)[::-1]), True)
        self.assertIs(is_paper(claim, paper_of(claim)[1:]), False)

    def test_streams_and_ends(self):
        for streams in wrong_streams():
            self.judge(("can end", race(), streams, END), False)
        wrong = [*odd_values(), 0, "", [], (), {}, list(END), END[:2], (*END, ()), (2, *END[1:]), (-1, *END[1:]), (True, *END[1:])]
        wrong += [(1, [(), ()], ((0,),)), (1, ((),), ((0,),)), (1, ((), (), ()), ((0,),)), (1, ((), []), ((0,),))]
        wrong += [(1, ((), ()), ()), (1, ((), ()), ((0,), ())), (1, ((), ()), ([0],)), (1, ((), ()), ((False,),))]
        wrong += [(1, ((), ()), ((10,),)), (1, ((), (-1,)), ((0,),)), (1, ((), ("0",)), ((0,),)), (1, None, ((0,),))]
        for end in wrong:
            self.judge(("can end", race(), ONE_EACH, end), False)
        for end in [END, (0, ((5,), (7, 7)), ((1, 2, 3),)), (1, ((), ()), ((),))]:
            self.judge(("can end", race(), ONE_EACH, end), True)
        self.assertIs(is_true(("can end", race(), ONE_EACH, (0, ((5,), (7, 7)), ((1, 2, 3),)))), False)
        self.judge(("can end", race(), {"a": [0] * 8, "b": (0,) * 8}, END), True)
        self.judge(("can end", race(), {"a": [0] * 8, "b": (0,) * 9}, END), False)
        self.judge(("can end", race(), {"a": [0] * 17}, END), False)


def fits(word, at, value):
    """Whether a value may stand at this place of a claim about the machines of good_claims."""
    if word == "can end" and at == 2:
        return isinstance(value, dict) and not value
    return word == "lead" and at == 4 and type(value) is int


class Papers(Case):
    def test_claims_of_all_kinds_about_small_machines(self):
        rng = random.Random(92)
        told_of = {}
        for _ in range(60):
            for claim in some_claims(rng):
                told = paper_of(claim)
                self.assertIs(is_true(claim), truth(claim), claim)
                self.assertIs(told is not None, truth(claim), claim)
                if told is not None:
                    self.assertIs(is_paper(claim, told), True, claim)
                    self.assertTrue(judged(claim, told), claim)
                    self.assertTrue(are_strict(told))
                told_of.setdefault(claim[0], set()).add(truth(claim))
        self.assertEqual(told_of, {claim[0]: {True, False} for claim, _, _ in good_claims()})

    def test_papers_that_are_spoiled(self):
        rng = random.Random(920)
        told_of = {}
        begun = time.monotonic()
        for _ in range(12):
            for claim in [*some_claims(rng), *(claim for claim, _, _ in good_claims())]:
                told = paper_of(claim)
                for value in itertools.islice(spoiled(told), 400) if told is not None else [[], {}, None, ([], []), 0]:
                    expected = judged(claim, value)
                    self.assertIs(is_paper(claim, value), expected, (claim, value))
                    self.assertIs(type(expected), bool)
                    told_of.setdefault((claim[0], expected), []).append(value)
        for word in {claim[0] for claim, _, _ in good_claims()}:
            self.assertGreater(len(told_of[(word, False)]), 50)
        self.assertLess(time.monotonic() - begun, 60)

    def test_papers_of_another_claim_are_none(self):
        for claim, _, _ in good_claims():
            for other, paper, _ in good_claims():
                if other != claim:
                    self.assertIs(is_paper(claim, paper), judged(claim, paper), (claim, paper))
        for claim, _, wrong in good_claims():
            for value in [*odd_values(), 0, "", [], (), {}, ([], []), ([], 0, 1), ({}, [])]:
                self.assertIs(is_paper(wrong, value), False)
                self.assertIs(is_paper(claim, value), judged(claim, value), (claim, value))

    def test_can_end(self):
        streams = {"a": [0], "b": [0, 0]}
        for end in ends(race(), streams):
            claim = ("can end", race(), streams, end)
            run = paper_of(claim)
            self.assertEqual([run_end(race(), streams, run), is_full(race(), streams, run)], [end, True])
            for other, its_end in brute_full(race(), streams):
                self.assertIs(is_paper(claim, other), its_end == end)
                self.assertIs(is_paper(claim, tuple(other)), its_end == end)
                self.assertIs(is_paper(claim, other[:-1]), False)
        # A run that ends so and is not full.
        claim = ("can end", race(), {"a": [0]}, (0, ((0,), ()), ((),)))
        self.assertEqual([is_true(claim), is_paper(claim, [])], [False, False])

    def test_can_end_by_doing_all_full_runs(self):
        rng = random.Random(921)
        for _ in range(30):
            machine = loose(rng)
            for streams in rng.sample(list(small_streams(machine, 3)), 5):
                found = all_ends(machine, streams)
                for end in [*found, (0, *next(iter(found))[1:])]:
                    self.assertIs(is_true(("can end", machine, streams, end)), end in found)

    def test_standstills_and_enough_by_doing_everything(self):
        rng = random.Random(922)
        told_of = {True: 0, False: 0}
        for _ in range(60):
            pair = some_pair(rng)
            for sizes in itertools.product((1, 2), repeat=len(pair.stores)):
                enough, still = ("enough", pair, sizes), ("standstill", pair, sizes)
                self.assertEqual(is_true(enough), not is_true(still))
                told_of[is_true(enough)] += 1
                if is_true(enough):
                    self.assertTrue(is_cover_by_hand(pair, sizes, paper_of(enough)))
                    for streams in rng.sample(list(small_streams(pair, 4)), 4):
                        self.assertFalse(any(table.lacks_room() for table in pair_tables(pair, streams, sizes)))
                else:
                    streams, _ = paper_of(still)
                    if sum(map(len, streams.values())) <= 6:
                        self.assertTrue(any(table.lacks_room() for table in pair_tables(pair, streams, sizes)))
        self.assertGreater(min(told_of.values()), 15)

    def test_enough(self):
        claim = ("enough", easy(), (1,))
        good = [(0, 0, ((),)), (0, 0, ((1,),))]
        for value in (good, tuple(good), good[::-1]):
            self.assertIs(is_paper(claim, value), True)
        wrong = [good[:1], good[1:], good + good[:1], good + [(0, 0, ((1, 1),))], good + [(0, 0, ((7,),))], [list(row) for row in good]]
        wrong += [[(0, 0, []), good[1]], [good[0], (0, 0, ((True,),))], [(False, 0, ((),)), good[1]], [(0, 0, ((), ())), good[1]]]
        wrong += [[good[0], (0, 0, ([1],))], {row: True for row in good}, [good[0], (0, 1, ((),)), good[1]], [good[0], good[1], 0]]
        wrong += [[good[0], (1, 0, ((),)), good[1]], [good[0], good[1], (0, 0)], [good[0], good[1], (0, 0, ((10,),))], good + [None]]
        wrong += [good + [value] for value in odd_values()] + [good + [(0, 0, value)] for value in odd_values()]
        for value in wrong:
            self.assertIs(is_paper(claim, value), False, value)
        # More than is come to is right where it is closed and does not stand still.
        second = Machine(["o"], ["p"], 2, [(0, {"o": 1}, {"p": 3}, 0), (1, {"o": 1}, {}, 1)])
        more = ("enough", Pair(free(), second), (1,))
        self.assertEqual(paper_of(more), good)
        self.assertIs(is_paper(more, good + [(0, 1, ((),)), (0, 1, ((1,),))]), True)
        self.assertIs(is_paper(more, good + [(0, 1, ((),))]), False)
        self.assertIs(is_paper(more, good + [(0, 1, ((),)), (0, 1, ((1,),)), (0, 1, ((2,),))]), False)

    def test_ranks(self):
        claim = ("live", race(), "b")
        self.assertIs(is_paper(claim, {1: 1, 0: 1}), True)
        wrong = [{0: 1}, {0: 1, 1: 1, 2: 1}, {0: 1, 1: 2}, {0: 0, 1: 1}, {0: True, 1: 1}, {False: 1, 1: 1}, {0: 1, True: 1}]
        wrong += [[1, 1], [(0, 1), (1, 1)], {0: 1, 1: "1"}, {0: 1, 1: Same()}, {0: 1, 1: None}, {}, {0: 1, None: 1}, ((0, 1), (1, 1))]
        for value in wrong:
            self.assertIs(is_paper(claim, value), False, value)

    def test_same_and_other_of_machines_that_are_not_alike(self):
        for both in [(race(), race()), (race(), free()), (free(), race())]:
            for word in ("same", "other"):
                claim = (word, *both)
                self.assertEqual([is_true(claim), paper_of(claim)], [False, None])
                for value in ([(0, 0)], [(0, 0), (1, 1)], {"a": [0]}, {"a": [0], "b": [0]}, {}):
                    self.assertIs(is_paper(claim, value), False)


class Kept(Case):
    def test_what_is_passed_stays(self):
        streams = {"b": (0,), "a": [0]}
        claim, run = ("can end", race(), streams, END), [1, 0]
        cover = [(0, 0, ((1,),)), (0, 0, ((),))]
        kept = copy.deepcopy([streams, run, cover])
        for call in (is_claim, is_true, paper_of):
            call(claim)
        is_paper(claim, run)
        is_paper(("enough", easy(), (1,)), cover)
        self.assertEqual([streams, run, cover, dict_order(streams)], [*kept, [("b", (0,)), ("a", [0])]])

    def test_what_is_told_is_new_also_inside(self):
        for claim, _, _ in good_claims():
            kept = copy.deepcopy(paper_of(claim))
            told = paper_of(claim)
            for part in told.values() if isinstance(told, dict) else told:
                for inner in part if isinstance(part, tuple) else [part]:
                    if isinstance(inner, (list, dict)):
                        inner.clear()
            if isinstance(told, (list, dict)):
                told.clear()
            self.assertEqual(paper_of(claim), kept)
        self.assertEqual(closings(free()), {(0, 1): ([1], [0])})


if __name__ == "__main__":
    unittest.main()
