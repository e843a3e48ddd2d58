"""Machines: what they are, what they tell, and what they refuse."""

import inspect
import random
import unittest

from loosebeats import machines
from loosebeats.errors import (
    InvalidIns,
    InvalidNames,
    InvalidNumber,
    InvalidOuts,
    InvalidReaction,
    InvalidReactions,
    InvalidStanding,
    InvalidStandings,
    NotAgreeing,
    SharedLine,
    TooMany,
)
from loosebeats.machines import Machine, do_agree, heads
from samples import Case, Same, dict_order, forty, free, made_up, odd_values, race


class Interface(unittest.TestCase):
    def test_what_is_listed_is_defined_there_with_its_names(self):
        for function, params in ((do_agree, ["machine", "one", "other"]), (heads, ["machine", "one", "other"])):
            self.assertEqual(function.__module__, "loosebeats.machines")
            self.assertEqual(list(inspect.signature(function).parameters), params)
        self.assertEqual(Machine.__module__, "loosebeats.machines")
        self.assertEqual(list(inspect.signature(Machine).parameters), ["ins", "outs", "standings", "reactions"])
        self.assertEqual(list(inspect.signature(Machine.at).parameters), ["self", "standing"])
        self.assertEqual(list(inspect.signature(Machine.renamed).parameters), ["self", "names"])

    def test_each_method_stands_in_the_class_itself(self):
        for name in ("reactions", "at", "reached", "renamed", "__getitem__", "__len__", "__contains__"):
            self.assertIn(name, vars(machines.Machine))
        for name in ("__eq__", "__repr__", "__add__", "__sub__", "__or__"):
            self.assertIn(name, vars(machines.Machine))
        for name in ("ins", "outs", "standings"):
            self.assertIsInstance(vars(machines.Machine)[name], property)

    def test_class_values(self):
        self.assertEqual([Machine.MOST_STANDINGS, Machine.MOST_REACTIONS], [12, 40])
        self.assertEqual([race().MOST_STANDINGS, race().MOST_REACTIONS], [12, 40])

    def test_examples(self):
        self.assertEqual(
            [race().at(0), race().reached(), do_agree(race(), 0, 1), heads(race(), 0, 1)],
            [[0, 1], [0, 1], True, {"a": 0, "b": 0}],
        )
        self.assertEqual([do_agree(race(), 1, 2), race()[2]], [False, (1, {"b": 0}, {"o": 1}, 1)])
        self.assertEqual(
            [len(free() - 0), (0, {"b": 0}, {}, 0) in free(), free().renamed({"a": "x"}).ins],
            [1, True, ["x", "b"]],
        )
        self.assertEqual((race() | free().renamed({"a": "x", "b": "y", "o": "z"})).standings, 2)
        self.assertEqual(
            repr(Machine(["a"], ["o"], 1, [(0, {"a": 0}, {"o": 1}, 0)])),
            "Machine(['a'], ['o'], 1, [(0, {'a': 0}, {'o': 1}, 0)])",
        )

    def test_arguments_by_name(self):
        machine = Machine(reactions=[], standings=3, outs=["o"], ins=["a"])
        self.assertEqual([machine.ins, machine.outs, machine.standings], [["a"], ["o"], 3])
        self.assertEqual(machine.at(standing=2), [])
        self.assertEqual(machine.renamed(names={"a": "b"}).ins, ["b"])
        self.assertTrue(do_agree(other=1, one=0, machine=race()))
        self.assertEqual(heads(other=1, one=0, machine=race()), {"a": 0, "b": 0})


class Made(Case):
    def test_parts_are_told_as_passed(self):
        machine = race()
        self.assertEqual([machine.ins, machine.outs, machine.standings], [["a", "b"], ["o"], 2])
        self.assertEqual(
            machine.reactions(),
            [(0, {"a": 0}, {}, 1), (0, {"b": 0}, {"o": 0}, 0), (1, {"b": 0}, {"o": 1}, 1)],
        )
        self.assertEqual([machine[number] for number in range(len(machine))], machine.reactions())
        self.assertIs(type(machine.reactions()), list)
        self.assertIs(type(machine[0]), tuple)

    def test_least_machine(self):
        machine = Machine(["a"], [], 1, [])
        self.assertEqual([machine.ins, machine.outs, machine.standings], [["a"], [], 1])
        self.assertEqual([machine.reactions(), len(machine), machine.at(0), machine.reached()], [[], 0, [], [0]])
        self.assertEqual(repr(machine), "Machine(['a'], [], 1, [])")

    def test_greatest_machine(self):
        reactions = [(k % 12, {"abcd"[k % 4]: k % 10}, {"opq"[k % 3]: 9}, 11) for k in range(40)]
        machine = Machine(list("abcd"), list("opq"), 12, reactions)
        self.assertEqual([len(machine), machine.standings, machine[39]], [40, 12, reactions[39]])
        self.assertEqual([len(machine.ins), len(machine.outs)], [4, 3])

    def test_names_of_one_and_of_eight_letters(self):
        machine = Machine(["z", "abcdefgh"], ["zzzzzzzz"], 1, [(0, {"abcdefgh": 9}, {"zzzzzzzz": 0}, 0)])
        self.assertEqual([machine.ins, machine.outs], [["z", "abcdefgh"], ["zzzzzzzz"]])
        for name in ("", "abcdefghi", "A", "a1", "a_", "a b", "\n", "a\n", "aB", "`", "{"):
            with self.subTest(name):
                self.refused(InvalidIns, {"position": 1}, Machine, ["a", name], [], 1, [])
                self.refused(InvalidOuts, {"position": 1}, Machine, ["a"], ["o", name], 1, [])

    def test_tuples_where_lists_are_passed(self):
        machine = Machine(("a", "b"), ("o",), 2, tuple(race().reactions()))
        self.assertEqual(machine, race())
        self.assertEqual([type(machine.ins), type(machine.outs), type(machine.reactions())], [list, list, list])
        self.assertEqual(repr(machine), repr(race()))

    def test_keys_are_told_in_the_sequence_of_the_machine(self):
        machine = Machine(["b", "a"], ["p", "o"], 1, [(0, {"a": 1, "b": 2}, {"o": 3, "p": 4}, 0)])
        self.assertEqual(dict_order(machine[0][1]), [("b", 2), ("a", 1)])
        self.assertEqual(dict_order(machine[0][2]), [("p", 4), ("o", 3)])
        self.assertEqual(dict_order(machine.reactions()[0][1]), [("b", 2), ("a", 1)])
        told = "Machine(['b', 'a'], ['p', 'o'], 1, [(0, {'b': 2, 'a': 1}, {'p': 4, 'o': 3}, 0)])"
        self.assertEqual(repr(machine), told)

    def test_what_is_passed_is_copied_and_stays(self):
        ins, outs, takes, gives = ["a", "b"], ["o"], {"b": 1, "a": 0}, {"o": 1}
        reactions = [(0, takes, gives, 0)]
        machine = Machine(ins, outs, 1, reactions)
        self.assertEqual([ins, outs, reactions], [["a", "b"], ["o"], [(0, {"b": 1, "a": 0}, {"o": 1}, 0)]])
        self.assertEqual(dict_order(takes), [("b", 1), ("a", 0)])
        told = repr(machine)
        ins.append("c")
        outs.clear()
        takes["a"] = 5
        gives.clear()
        reactions.clear()
        self.assertEqual(repr(machine), told)

    def test_what_is_told_is_new_also_inside(self):
        machine = race()
        told = repr(machine)
        machine.ins.append("c")
        machine.outs.clear()
        machine.reactions().clear()
        machine.reactions()[1][1]["b"] = 7
        machine.reactions()[1][2].clear()
        machine[1][1].clear()
        machine[1][2]["o"] = 7
        machine.at(0).append(5)
        machine.reached().append(5)
        heads(machine, 0, 1).clear()
        self.assertEqual(repr(machine), told)
        self.assertEqual([machine.at(0), machine.reached(), heads(machine, 0, 1)], [[0, 1], [0, 1], {"a": 0, "b": 0}])


class Refused(Case):
    def test_ins(self):
        for value in [*odd_values(), [], (), "ab", {"a": 0}, 1]:
            self.refused(InvalidIns, {"position": None}, Machine, value, [], 1, [])
        for value in [*odd_values(), 1, ["a"], ("a",), {}]:
            self.refused(InvalidIns, {"position": 0}, Machine, [value, "a"], [], 1, [])
            self.refused(InvalidIns, {"position": 1}, Machine, ("a", value), [], 1, [])
        self.refused(InvalidIns, {"position": 2}, Machine, ["a", "b", "a", ""], [], 1, [])
        self.refused(InvalidIns, {"position": 4}, Machine, ["a", "b", "c", "d", "d"], [], 1, [])
        self.refused(TooMany, {"what": "ins", "limit": 4}, Machine, list("abcde"), [], 1, [])

    def test_outs(self):
        for value in [*odd_values(), "ab", {"o": 0}, 1]:
            self.refused(InvalidOuts, {"position": None}, Machine, ["a"], value, 1, [])
        for value in [*odd_values(), 1, ["o"], ("o",), {}]:
            self.refused(InvalidOuts, {"position": 1}, Machine, ["a"], ["o", value], 1, [])
        self.refused(InvalidOuts, {"position": 1}, Machine, ["a"], ["o", "o"], 1, [])
        self.refused(InvalidOuts, {"position": 1}, Machine, ["a", "b"], ["o", "b"], 1, [])
        self.refused(InvalidOuts, {"position": 3}, Machine, ["a"], ["o", "p", "q", "q"], 1, [])
        self.refused(TooMany, {"what": "outs", "limit": 3}, Machine, ["a"], list("opqr"), 1, [])

    def test_standings(self):
        for value in [*odd_values()[:2], "1", [1], (1,), {}, None, 0, -1, 13, 10**29]:
            self.refused(InvalidStandings, {"value": value}, Machine, ["a"], [], value, [])
        self.assertEqual(Machine(["a"], [], 1, []).standings, 1)
        self.assertEqual(Machine(["a"], [], 12, []).standings, 12)

    def test_reactions_no_list(self):
        for value in [*odd_values(), "ab", {}, 1]:
            self.refused(InvalidReactions, {"position": None}, Machine, ["a"], [], 1, value)

    def wrong_reactions(self):
        good = (1, {"a": 0}, {"o": 0}, 1)
        yield from odd_values()
        yield from [0, "x", [], (), list(good), good[:3], (*good, 0), {}]
        for standing in [*odd_values(), "0", -1, 2, (0,), [0]]:
            yield (standing, *good[1:])
            yield (*good[:3], standing)
        for worths in [*odd_values(), "a", [("a", 0)], (("a", 0),), 0]:
            yield (1, worths, {}, 1)
            yield (1, {"a": 0}, worths, 1)
        for worth in [*odd_values(), -1, 10, "0", [0], (0,), 10**29]:
            yield (1, {"a": worth}, {}, 1)
            yield (1, {"b": 0, "a": worth}, {}, 1)
            yield (1, {"a": 0}, {"o": worth}, 1)
        for line in ["o", "c", "", 0, True, None, ("a",), b"a", Same()]:
            yield (1, {line: 0}, {}, 1)
            yield (1, {"b": 0, line: 0}, {}, 1)
        for line in ["a", "c", "", 0, True, None, ("o",), b"o", Same()]:
            yield (1, {"a": 0}, {line: 0}, 1)
        yield (1, {}, {"o": 0}, 1)

    def test_wrong_reactions(self):
        good = (0, {"a": 0}, {}, 1)
        machine = Machine(["a", "b"], ["o"], 2, [good])
        for value in self.wrong_reactions():
            self.refused(InvalidReactions, {"position": 0}, Machine, ["a", "b"], ["o"], 2, [value, good])
            self.refused(InvalidReactions, {"position": 1}, Machine, ["a", "b"], ["o"], 2, (good, value))
            self.refused(InvalidReaction, {"value": value}, lambda value=value: machine + value)
            self.assertIs(value in machine, False)
        self.assertEqual(len(machine), 1)

    def test_reactions_that_stand_ahead(self):
        rows = [
            (0, {"a": 0, "b": 1}, {"o": 0, "p": 1}, 0),
            (0, {"a": 0}, {}, 0),
            (0, {"b": 1, "a": 0}, {"p": 1, "o": 0}, 0),
        ]
        self.refused(InvalidReactions, {"position": 2}, Machine, ["a", "b"], ["o", "p"], 1, rows)
        unlike = [(0, {"a": 0}, {}, 0), (0, {"a": 0}, {}, 1), (0, {"a": 0}, {"o": 0}, 0), (1, {"a": 0}, {}, 0)]
        self.assertEqual(len(Machine(["a"], ["o"], 2, unlike)), 4)

    def test_too_many_reactions(self):
        more = [*forty(), (0, {"a": 0, "b": 0}, {}, 0)]
        self.assertEqual(len(Machine(list("abcd"), [], 1, forty())), 40)
        self.refused(TooMany, {"what": "reactions", "limit": 40}, Machine, list("abcd"), [], 1, more)
        self.refused(InvalidReactions, {"position": 41}, Machine, list("abcd"), [], 1, [*more, more[0]])
        self.refused(InvalidReactions, {"position": 41}, Machine, list("abcd"), [], 1, [*more, None])

    def test_which_error_comes_first(self):
        wrong = [(0, {}, {}, 0)]
        self.refused(InvalidIns, {"position": 0}, Machine, [1, 2], [1], 0, wrong)
        self.refused(TooMany, {"what": "ins"}, Machine, list("abcde"), [1], 0, wrong)
        self.refused(TooMany, {"what": "ins"}, Machine, list("abcde"), ["a"], 0, wrong)
        self.refused(InvalidOuts, {"position": 0}, Machine, ["a"], [1], 0, wrong)
        self.refused(TooMany, {"what": "outs"}, Machine, ["a"], list("opqr"), 0, wrong)
        self.refused(InvalidStandings, {"value": 0}, Machine, ["a"], ["o"], 0, wrong)
        self.refused(InvalidReactions, {"position": 0}, Machine, ["a"], ["o"], 1, wrong)


class Asked(Case):
    def test_number(self):
        machine = race()
        for value in [*odd_values(), -1, 3, "0", "a", [0], (0,), {}, slice(0, 1), 10**29]:
            self.refused(InvalidNumber, {"value": value}, lambda value=value: machine[value])
            self.refused(InvalidNumber, {"value": value}, lambda value=value: machine - value)
            for function in (do_agree, heads):
                self.refused(InvalidNumber, {"value": value}, function, machine, value, 0)
                self.refused(InvalidNumber, {"value": value}, function, machine, 0, value)
                self.refused(InvalidNumber, {"value": value}, function, machine, value, "later")
        self.assertEqual(machine, race())
        self.refused(InvalidNumber, {"value": 0}, lambda: Machine(["a"], [], 1, [])[0])

    def test_standing(self):
        for value in [*odd_values(), -1, 2, "0", [0], (0,), {}, 10**29]:
            self.refused(InvalidStanding, {"value": value}, race().at, value)
        self.assertEqual([race().at(0), race().at(1)], [[0, 1], [2]])

    def test_at_is_in_rising_order_and_takes_all_standings(self):
        machine = Machine(["a"], [], 4, [(k, {"a": w}, {}, 3) for w in range(3) for k in (2, 0)])
        self.assertEqual([machine.at(k) for k in range(4)], [[1, 3, 5], [], [0, 2, 4], []])

    def test_reached(self):
        rows = [(3, {"a": 0}, {}, 1), (0, {"a": 0}, {}, 3), (2, {"a": 0}, {}, 4), (4, {"a": 0}, {}, 2)]
        self.assertEqual(Machine(["a"], [], 5, rows).reached(), [0, 1, 3])
        chain = [(k, {"a": 0}, {}, k + 1) for k in reversed(range(11))]
        self.assertEqual(Machine(["a"], [], 12, chain).reached(), list(range(12)))
        self.assertEqual(Machine(["a"], [], 12, chain[:-1]).reached(), [0])
        self.assertEqual(Machine(["a"], [], 2, [(0, {"a": 0}, {}, 0)]).reached(), [0])

    def test_contains(self):
        machine = Machine(["a", "b"], ["o"], 2, [(0, {"a": 0, "b": 1}, {"o": 0}, 1)])
        self.assertIs((0, {"b": 1, "a": 0}, {"o": 0}, 1) in machine, True)
        for value in [
            (1, {"a": 0, "b": 1}, {"o": 0}, 1),
            (0, {"a": 0, "b": 1}, {"o": 0}, 0),
            (0, {"a": 0, "b": 1}, {}, 1),
            (0, {"a": 0}, {"o": 0}, 1),
            (0, {"a": 1, "b": 1}, {"o": 0}, 1),
            (0, {"a": 0, "b": True}, {"o": 0}, 1),
            (0, {"a": 0, "b": 1}, {"o": False}, 1),
            (False, {"a": 0, "b": 1}, {"o": 0}, 1),
            (0, {"a": 0, "b": 1}, {"o": 0}, True),
            [0, {"a": 0, "b": 1}, {"o": 0}, 1],
            0,
            machine,
        ]:
            self.assertIs(value in machine, False)

    def test_len(self):
        self.assertEqual([len(race()), len(free()), len(Machine(list("abcd"), [], 1, forty()))], [3, 2, 40])

    def test_a_machine_is_not_iterated_over(self):
        with self.assertRaises(TypeError):
            list(race())

    def test_equal(self):
        one = Machine(["a", "b"], ["o", "p"], 2, [(0, {"a": 0, "b": 1}, {"o": 0, "p": 1}, 1), (0, {"a": 1}, {}, 0)])
        rows = one.reactions()
        swapped = (0, {"b": 1, "a": 0}, {"p": 1, "o": 0}, 1)
        self.assertEqual(one, Machine(("a", "b"), ("o", "p"), 2, (swapped, rows[1])))
        self.assertFalse(one != Machine(one.ins, one.outs, 2, rows))
        for other in [
            Machine(["b", "a"], ["o", "p"], 2, rows),
            Machine(["a", "b", "c"], ["o", "p"], 2, rows),
            Machine(["a", "b"], ["p", "o"], 2, rows),
            Machine(["a", "b"], ["o", "p", "q"], 2, rows),
            Machine(["a", "b"], ["o", "p"], 3, rows),
            Machine(["a", "b"], ["o", "p"], 2, rows[::-1]),
            Machine(["a", "b"], ["o", "p"], 2, rows[:1]),
            Machine(["a", "b"], ["o", "p"], 2, [rows[0], (0, {"a": 2}, {}, 0)]),
            None,
            rows,
            repr(one),
            (["a", "b"], ["o", "p"], 2, rows),
        ]:
            self.assertFalse(one == other)
            self.assertTrue(one != other)

    def test_repr_can_be_read_back(self):
        rng = random.Random(5)
        for _ in range(50):
            machine, _ = made_up(rng)
            self.assertEqual(eval(repr(machine)), machine)
            self.assertEqual(str(machine), repr(machine))


class Changed(Case):
    def test_add(self):
        machine = race()
        takes = {"b": 3, "a": 2}
        more = machine + (1, takes, {"o": 9}, 0)
        takes.clear()
        self.assertEqual(more.reactions(), [*race().reactions(), (1, {"a": 2, "b": 3}, {"o": 9}, 0)])
        self.assertEqual(dict_order(more[3][1]), [("a", 2), ("b", 3)])
        self.assertEqual([more.ins, more.outs, more.standings], [["a", "b"], ["o"], 2])
        self.assertEqual(machine, race())

    def test_add_refuses_one_that_is_there(self):
        machine = Machine(["a", "b"], [], 1, [(0, {"a": 0, "b": 0}, {}, 0)])
        there = (0, {"b": 0, "a": 0}, {}, 0)
        self.refused(InvalidReaction, {"value": there}, lambda: machine + there)

    def test_add_to_forty(self):
        machine = Machine(list("abcd"), [], 1, forty())
        another = (0, {"a": 0, "b": 0}, {}, 0)
        self.refused(TooMany, {"what": "reactions", "limit": 40}, lambda: machine + another)
        self.refused(InvalidReaction, {"value": forty()[0]}, lambda: machine + forty()[0])
        self.refused(InvalidReaction, {"value": None}, lambda: machine + None)
        self.assertEqual(len(machine - 0 + another), 40)
        self.assertEqual(len(machine - 39 - 38 + another), 39)

    def test_subtract(self):
        machine = race()
        rows = race().reactions()
        self.assertEqual((machine - 0).reactions(), rows[1:])
        self.assertEqual((machine - 1).reactions(), [rows[0], rows[2]])
        self.assertEqual((machine - 2).reactions(), rows[:2])
        self.assertEqual((machine - 2 - 1 - 0).reactions(), [])
        self.assertEqual(machine, race())
        self.assertEqual([(machine - 0).ins, (machine - 0).outs, (machine - 0).standings], [["a", "b"], ["o"], 2])

    def test_beside(self):
        two = Machine(["a"], ["o"], 2, [(0, {"a": 1}, {"o": 2}, 1), (1, {"a": 3}, {}, 0)])
        three = Machine(["b", "c"], ["p", "q"], 3, [(0, {"b": 4}, {"q": 5}, 2), (2, {"c": 6}, {}, 1)])
        both = two | three
        self.assertEqual([both.ins, both.outs, both.standings], [["a", "b", "c"], ["o", "p", "q"], 6])
        self.assertEqual(
            both.reactions(),
            [
                (0, {"a": 1}, {"o": 2}, 3),
                (1, {"a": 1}, {"o": 2}, 4),
                (2, {"a": 1}, {"o": 2}, 5),
                (3, {"a": 3}, {}, 0),
                (4, {"a": 3}, {}, 1),
                (5, {"a": 3}, {}, 2),
                (0, {"b": 4}, {"q": 5}, 2),
                (3, {"b": 4}, {"q": 5}, 5),
                (2, {"c": 6}, {}, 1),
                (5, {"c": 6}, {}, 4),
            ],
        )
        self.assertEqual((three | two).ins, ["b", "c", "a"])
        self.assertEqual((three | two)[0], (0, {"b": 4}, {"q": 5}, 4))
        self.assertEqual(len(two), 2)

    def test_beside_with_a_common_line(self):
        one = Machine(["a", "b"], ["o", "p"], 1, [])
        for other, line in (
            (Machine(["b", "a"], ["p"], 1, []), "a"),
            (Machine(["x"], ["b", "p"], 1, []), "b"),
            (Machine(["p", "o"], ["x"], 1, []), "o"),
            (Machine(["p"], ["a"], 1, []), "a"),
            (Machine(["x", "y", "z"], ["u", "v", "p"], 12, []), "p"),
        ):
            self.refused(SharedLine, {"value": line}, lambda other=other: one | other)
        self.refused(SharedLine, {"value": "a"}, lambda: one | one)

    def test_beside_with_too_many(self):
        def made(ins, outs, standings, many):
            rows = [(0, {ins[0]: k % 10}, {}, k // 10) for k in range(many)]
            return Machine(list(ins), list(outs), standings, rows)

        def what(one, other):
            with self.assertRaises(TooMany) as caught:
                made(*one) | made(*other)
            return [caught.exception.what, caught.exception.limit]

        self.assertEqual(what(("abc", "op", 4, 20), ("de", "qr", 4, 20)), ["ins", 4])
        self.assertEqual(what(("abc", "op", 4, 20), ("d", "qr", 4, 20)), ["outs", 3])
        self.assertEqual(what(("abc", "op", 4, 20), ("d", "q", 4, 20)), ["standings", 12])
        self.assertEqual(what(("abc", "op", 4, 20), ("d", "q", 3, 20)), ["reactions", 40])
        self.assertEqual(what(("abc", "op", 3, 5), ("d", "q", 4, 7)), ["reactions", 40])
        full = made("abc", "op", 4, 8) | made("d", "q", 3, 4)
        self.assertEqual([len(full.ins), len(full.outs), full.standings, len(full)], [4, 3, 12, 40])

    def test_renamed(self):
        machine = Machine(["a", "b"], ["o"], 2, [(0, {"a": 0, "b": 1}, {"o": 2}, 1)])
        names = {"o": "a", "a": "b", "b": "o"}
        turned = machine.renamed(names)
        self.assertEqual(turned, Machine(["b", "o"], ["a"], 2, [(0, {"b": 0, "o": 1}, {"a": 2}, 1)]))
        self.assertEqual(names, {"o": "a", "a": "b", "b": "o"})
        self.assertEqual(machine.renamed({}), machine)
        self.assertEqual(machine.renamed({"a": "a", "o": "o"}), machine)
        self.assertEqual(machine.renamed({"o": "zzzzzzzz"}).outs, ["zzzzzzzz"])
        self.assertEqual(machine.ins, ["a", "b"])

    def test_renamed_refuses(self):
        machine = Machine(["a", "b"], ["o"], 1, [])
        wrong = [*odd_values(), "ab", [("a", "x")], (("a", "x"),), 1, {"x": "y"}, {1: "x"}, {None: "x"}]
        wrong += [{Same(): "x"}, {b"a": "x"}, {("a",): "x"}, {"a": "x", "x": "z"}]
        wrong += [{"a": name} for name in [*odd_values(), 1, "", "abcdefghi", "A", "a1", ["x"], ("x",), {}]]
        wrong += [{"a": "b"}, {"a": "o"}, {"o": "a"}, {"a": "x", "o": "x"}, {"a": "x", "b": "x"}]
        for value in wrong:
            self.refused(InvalidNames, {"value": value}, machine.renamed, value)


class Agreeing(Case):
    def setUp(self):
        rows = [
            (0, {"a": 0}, {}, 0),
            (0, {"c": 1, "b": 0}, {}, 0),
            (0, {"a": 0, "b": 1}, {}, 0),
            (0, {"a": 0}, {"o": 0}, 1),
            (1, {"b": 0}, {}, 0),
            (0, {"c": 1, "a": 0}, {}, 0),
        ]
        self.machine = Machine(["a", "b", "c"], ["o"], 2, rows)

    def test_do_agree(self):
        told = {(0, 1), (0, 2), (0, 3), (0, 5), (1, 3), (1, 5), (2, 3), (2, 5), (3, 5)}
        for one in range(6):
            for other in range(6):
                agree = (one, other) in told or (other, one) in told
                self.assertIs(do_agree(self.machine, one, other), agree)
                if not agree:
                    self.refused(NotAgreeing, {"one": one, "other": other}, heads, self.machine, one, other)

    def test_heads(self):
        self.assertEqual(dict_order(heads(self.machine, 1, 0)), [("a", 0), ("b", 0), ("c", 1)])
        self.assertEqual(dict_order(heads(self.machine, 5, 2)), [("a", 0), ("b", 1), ("c", 1)])
        self.assertEqual(heads(self.machine, 0, 3), {"a": 0})
        self.assertEqual(heads(self.machine, 3, 0), {"a": 0})


if __name__ == "__main__":
    unittest.main()
