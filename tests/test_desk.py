"""A desk: reactions done and taken back, commands, trials."""

import copy
import random
import unittest

from loosebeats import desk as desks
from loosebeats.desk import Desk, Trial, tried
from loosebeats.errors import (
    CannotBeDone,
    CommandFailed,
    InvalidCommand,
    InvalidLine,
    InvalidNumber,
    InvalidStreams,
    NothingToUndo,
)
from loosebeats.machines import Machine
from loosebeats.runs import can_be_done, is_full, run_end
from samples import Case, Same, chooser, forty, free, forward, loose, odd_values, race, wrong_streams

ONE_EACH = {"a": [0], "b": [0]}


class Model:
    """A desk by the words of [93]: all streams that came, and all that was done."""

    def __init__(self, machine, streams):
        self.machine = machine
        self.came = {line: list(streams.get(line, [])) for line in machine.ins}
        self.run = []
        self.ahead = []

    def place(self):
        return forward(self.machine, 0, self.came, self.run)

    def able(self):
        numbers = range(len(self.machine))
        return [number for number in numbers if forward(self.machine, 0, self.came, self.run + [number]) is not None]

    def change(self):
        self.ahead.append((copy.deepcopy(self.came), list(self.run)))

    def do(self, number):
        self.change()
        self.run.append(number)

    def come(self, streams):
        self.change()
        for line, worths in streams.items():
            self.came[line].extend(worths)

    def finish(self):
        self.change()
        many = 0
        while self.able():
            self.run.append(self.able()[0])
            many += 1
        return many

    def undo(self):
        self.came, self.run = self.ahead.pop()

    def line(self, line):
        _, rests, flows = self.place()
        return list(dict(zip(self.machine.ins + self.machine.outs, rests + flows))[line])


def seen(desk):
    """All that can be seen of a desk."""
    lines = desk.machine.ins + desk.machine.outs
    return [desk.state, desk.run, len(desk), [desk[line] for line in lines], [n for n in range(45) if n in desk]]


def undone(desk):
    """All that can be seen of a desk at each change that can be taken back, which are put there again."""

    def all_back(held):
        told = []
        while len(held) > 0:
            held.undo()
            told.append(seen(held))
        return told

    return tried(desk, all_back)


class Interface(Case):
    def test_what_is_listed_is_defined_there_with_its_names(self):
        self.listed(desks, {"tried": ["desk", "action"]})
        listed = "machine state run do __iadd__ __getitem__ finish undo __len__ __contains__ tell tell_all".split()
        for name in listed + ["__init__"]:
            self.assertIn(name, vars(Desk))
        for name in ("__init__", "__enter__", "__exit__"):
            self.assertIn(name, vars(Trial))
        self.assertEqual([Desk.__module__, Trial.__module__], ["loosebeats.desk"] * 2)

    def test_examples(self):
        desk = Desk(race(), ONE_EACH)
        told = [desk.tell("can"), desk.tell_all("do 0", "finish"), desk["o"], desk.state, desk.run, len(desk)]
        self.assertEqual(told, ["0 1", ["done", "done"], [1], (1, ((), ()), ((1,),)), [0, 2], 2])
        again = Desk(race(), ONE_EACH)
        told = again.tell_all("do 0", "finish")
        back = tried(again, lambda held: held.tell_all("come b 0 0", "finish", "line o"))
        told = [told, back, again.undo(), again.tell("line b"), 2 in again]
        self.assertEqual(told, [["done", "done"], ["done", "done", "1 1 1"], None, "0", True])

    def test_arguments_by_name(self):
        desk = Desk(streams=ONE_EACH, machine=race())
        self.assertEqual([desk.do(number=0), desk.tell(command="can")], [[2], "2"])
        with Trial(desk=desk) as held:
            held.finish()
        self.assertEqual(tried(action=lambda held: held.run, desk=desk), [0])

    def test_properties_are_not_assigned(self):
        desk = Desk(race(), ONE_EACH)
        for name in ("machine", "state", "run"):
            with self.assertRaises(AttributeError):
                setattr(desk, name, None)
        with self.assertRaises(TypeError):
            list(desk)


class Changes(Case):
    def test_at_first(self):
        desk = Desk(race(), {"b": (0, 5)})
        self.assertEqual([desk.machine, desk.state, desk.run, len(desk)], [race(), (0, ((), (0, 5)), ((),)), [], 0])
        self.assertEqual([desk["a"], desk["b"], desk["o"], 0 in desk, 1 in desk], [[], [0, 5], [], False, True])

    def test_do(self):
        desk = Desk(race(), ONE_EACH)
        self.assertEqual([desk.do(1), desk.do(0), desk.run, desk.state], [[0], [], [1, 0], (1, ((), ()), ((0,),))])
        self.assertEqual(Desk(free(), {"a": [0, 0]}).do(0), [0])

    def test_what_cannot_be_done(self):
        desk = Desk(race(), {"a": [0]})
        for number in (1, 2):
            self.refused(CannotBeDone, {"value": number}, desk.do, number)
        for number in [*odd_values(), -1, 3, "0", [0], (0,), {}, 10**29]:
            self.refused(InvalidNumber, {"value": number}, desk.do, number)
        self.assertEqual(seen(desk), seen(Desk(race(), {"a": [0]})))

    def test_more_worths_come(self):
        desk = kept = Desk(race(), {"a": [0]})
        desk += {"b": [0], "a": (5,)}
        self.assertIs(desk, kept)
        self.assertEqual([desk["a"], desk["b"], len(desk)], [[0, 5], [0], 1])
        desk.do(0)
        desk += {"a": [7]}
        self.assertEqual([desk["a"], desk.run, len(desk)], [[5, 7], [0], 3])
        desk += {}
        desk += {"a": []}
        self.assertEqual([desk["a"], len(desk)], [[5, 7], 5])

    def test_wrong_streams(self):
        desk = Desk(race(), ONE_EACH)
        for streams in wrong_streams():
            self.refused(InvalidStreams, {"value": streams}, Desk, race(), streams)
            with self.assertRaises(InvalidStreams) as caught:
                desk += streams
            self.assertIs(caught.exception.value, streams)
            self.assertIsInstance(desk, Desk)
        self.assertEqual(seen(desk), seen(Desk(race(), ONE_EACH)))

    def test_finish(self):
        desk = Desk(race(), {"a": [0, 1], "b": [0, 0]})
        self.assertEqual([desk.finish(), desk.run, len(desk)], [3, [0, 2, 2], 1])
        self.assertEqual([desk.finish(), desk.run, len(desk)], [0, [0, 2, 2], 2])
        desk.undo()
        desk.undo()
        self.assertEqual([desk.run, desk.do(1), desk.finish(), desk.run], [[], [0, 1], 2, [1, 0, 2]])

    def test_undo(self):
        desk = Desk(race(), ONE_EACH)
        self.refused(NothingToUndo, {}, desk.undo)
        desk.do(0)
        self.assertEqual([desk.undo(), len(desk), desk.run], [None, 0, []])
        self.refused(NothingToUndo, {}, desk.undo)

    def test_changes_that_failed_are_none(self):
        desk = Desk(race(), {"a": [0]})
        for call in (lambda: desk.do(1), lambda: desk.do("x"), desk.undo, lambda: desk.tell("do 2"), lambda: desk.tell("x")):
            with self.assertRaises((ValueError, RuntimeError)):
                call()
        self.assertEqual(len(desk), 0)

    def test_lines(self):
        desk = Desk(race(), {"b": [0, 1]})
        desk.do(1)
        self.assertEqual([desk["a"], desk["b"], desk["o"]], [[], [1], [0]])
        for line in [*odd_values(), "c", "", "A", 0, -1, ["a"], ("a",), {}, "ab"]:
            self.refused(InvalidLine, {"value": line}, desk.__getitem__, line)

    def test_numbers_in_it(self):
        desk = Desk(race(), ONE_EACH)
        self.assertEqual([0 in desk, 1 in desk, 2 in desk, 3 in desk, -1 in desk], [True, True, False, False, False])
        for value in [*odd_values(), "0", [0], (0,), {}, 10**29]:
            self.assertIs(value in desk, False)
        self.assertIs(True in desk, False)
        self.assertIs(False in desk, False)

    def test_against_a_model(self):
        rng = random.Random(93)
        for _ in range(60):
            machine = loose(rng)
            streams = {line: [int(rng.random() < 0.2) for _ in range(rng.randint(0, 3))] for line in machine.ins}
            desk, model = Desk(machine, streams), Model(machine, streams)
            for _ in range(25):
                self.step(rng, desk, model)
                self.assertEqual([desk.state, desk.run, len(desk)], [model.place(), model.run, len(model.ahead)])
                able = [number for number in range(len(machine)) if number in desk]
                self.assertEqual(able, model.able())
                for line in machine.ins + machine.outs:
                    self.assertEqual(desk[line], model.line(line))
                self.assertEqual(run_end(machine, model.came, desk.run), desk.state)
            while model.ahead:
                desk.undo()
                model.undo()
                self.assertEqual([desk.state, desk.run, len(desk)], [model.place(), model.run, len(model.ahead)])
            self.refused(NothingToUndo, {}, desk.undo)

    def step(self, rng, desk, model):
        draw = rng.random()
        machine = model.machine
        if draw < 0.45 and model.able():
            number = rng.choice(model.able())
            model.do(number)
            told = desk.do(number) if rng.random() < 0.5 else desk.tell(f"do {number}")
            self.assertIn(told, [model.able(), "done"])
        elif draw < 0.6:
            line, worths = rng.choice(machine.ins), [int(rng.random() < 0.2) for _ in range(rng.randint(1, 3))]
            model.come({line: worths})
            if rng.random() < 0.5:
                desk += {line: worths}
            else:
                self.assertEqual(desk.tell(" ".join(["come", line, *map(str, worths)])), "done")
        elif draw < 0.75:
            many = model.finish()
            self.assertEqual(desk.finish() if rng.random() < 0.5 else (desk.tell("finish"), many)[1], many)
            self.assertIs(is_full(machine, model.came, desk.run), True)
        elif model.ahead:
            model.undo()
            self.assertIn(desk.undo() if rng.random() < 0.5 else desk.tell("undo"), [None, "done"])
        standing, rests, _ = model.place()
        told = can_be_done(machine, standing, dict(zip(machine.ins, rests)))
        self.assertEqual(desk.tell("can"), " ".join(map(str, told)) or "-")

    def test_three_hundred_changes(self):
        desk = Desk(free(), {"a": [0] * 2000, "b": [0] * 2000})
        for _ in range(299):
            desk.do(1)
        self.assertEqual([desk.finish(), len(desk), desk.run[:3], len(desk["o"])], [3701, 300, [1, 1, 1], 2000])
        for left in range(299, -1, -1):
            desk.undo()
            self.assertEqual([len(desk), len(desk.run)], [left, left])
        self.assertEqual(seen(desk), seen(Desk(free(), {"a": [0] * 2000, "b": [0] * 2000})))

    def test_two_desks_of_one_machine(self):
        machine = race()
        one, other = Desk(machine, ONE_EACH), Desk(machine, ONE_EACH)
        one.do(0)
        self.assertEqual([one.run, other.run, machine], [[0], [], race()])


class Tell(Case):
    def test_answers(self):
        desk = Desk(race(), {"b": [0, 3]})
        self.assertEqual([desk.tell("can"), desk.tell("standing"), desk.tell("line a")], ["1", "0", "-"])
        self.assertEqual([desk.tell("line b"), desk.tell("line o")], ["0 3", "-"])
        self.assertEqual([desk.tell("come a 0 9 0"), desk.tell("line a"), desk.tell("can")], ["done", "0 9 0", "0 1"])
        self.assertEqual([desk.tell("do 0"), desk.tell("standing"), desk.tell("finish")], ["done", "1", "done"])
        self.assertEqual([desk.tell("can"), desk.tell("line o"), desk.run], ["-", "1", [0, 2]])
        self.assertEqual([desk.tell("undo"), desk.run, len(desk)], ["done", [0], 2])
        self.assertEqual([desk.tell("undo"), desk.tell("undo"), len(desk)], ["done", "done", 0])

    def test_greater_numbers(self):
        machine = Machine(list("abcd"), [], 12, [(0, {"a": 0}, {}, 11), *((11, *row[1:]) for row in forty()[1:])])
        desk = Desk(machine, {"a": [0], "d": [9]})
        self.assertEqual([desk.tell("do 0"), desk.tell("can"), desk.tell("standing")], ["done", "39", "11"])
        self.assertEqual([desk.tell("do 39"), desk.tell("standing")], ["done", "0"])
        self.refused(CannotBeDone, {"value": 12}, desk.tell, "do 12")
        self.refused(InvalidCommand, {"value": "do 40"}, desk.tell, "do 40")

    def test_errors_of_what_is_done(self):
        desk = Desk(race(), {"a": [0]})
        self.refused(CannotBeDone, {"value": 1}, desk.tell, "do 1")
        self.refused(NothingToUndo, {}, desk.tell, "undo")
        self.assertEqual(len(desk), 0)

    def test_no_commands(self):
        desk = Desk(race(), ONE_EACH)
        wrong = [*odd_values(), 0, ["finish"], ("do", 0), {}, b"finish", ""]
        wrong += ["do", "do ", "do 3", "do -1", "do 00", "do 01", "do +1", "do 0 ", " do 0", "do  0", "do 0 1", "do x", "Do 0"]
        wrong += ["do 0\n", "do0", "0", "finish ", " finish", "finish 1", "finished", "FINISH", "finish\n", "undo 1", "undo "]
        wrong += ["come", "come ", "come a", "come a ", "come o 0", "come c 0", "come 0", "come a 10", "come a -1", "come a x"]
        wrong += ["come a 0 ", "come a  0", "come a 0  1", "come a 00", "come a 0,1", "come a 0 b 0", "come  a 0", "come A 0"]
        wrong += ["can ", "can 1", " can", "line", "line ", "line c", "line a ", "line  a", "line a b", "line A", "line 0"]
        wrong += ["standing 0", "standing ", " ", "  ", "\n", "-", "done", "do " + "9" * 5000, "come a " + "1" * 5000, "run"]
        wrong += ["go a 0", "comes a 0", "Come a 0", "do a 0", "line a 0", "come", "a 0", "come 0 a", " a 0", "can a 0"]
        wrong += ["in a", "state", "len", "do True", "do 1.0", "do 0x1", "do one", "undo\n", "can\n", "line a\n", "tell can"]
        for command in wrong:
            self.refused(InvalidCommand, {"value": command}, desk.tell, command)
        self.assertEqual(seen(desk), seen(Desk(race(), ONE_EACH)))

    def test_many_worths_come(self):
        desk = Desk(race(), {})
        desk.tell("come b" + " 0" * 2000)
        self.assertEqual([len(desk["b"]), desk.tell("finish"), desk.tell("line o")], [2000, "done", "0 " * 1999 + "0"])


class TellAll(Case):
    def test_ordinary(self):
        desk = Desk(race(), ONE_EACH)
        self.assertEqual([desk.tell_all(), len(desk)], [[], 0])
        told = desk.tell_all("can", "do 1", "line o", "standing", "undo", "finish", "can")
        self.assertEqual([told, len(desk)], [["0 1", "done", "0", "0", "done", "done", "-"], 1])

    def test_if_one_fails_none_has_an_effect(self):
        wrong = {"x": InvalidCommand, "do 1": CannotBeDone, "do 7": InvalidCommand, "come o 1": InvalidCommand}
        wrong |= {None: InvalidCommand, True: InvalidCommand, ("do",): InvalidCommand}
        for command, error in wrong.items():
            for ahead in range(4):
                desk = Desk(race(), {"a": [0, 0], "b": [0]})
                desk.do(1)
                desk += {"a": [5]}
                before = [seen(desk), undone(desk)]
                row = ["come a 7", "do 0", "undo", "undo"][:ahead]
                with self.assertRaises(CommandFailed) as caught:
                    desk.tell_all(*row, command, "finish", "x")
                failed = caught.exception
                self.assertEqual([failed.position, type(failed.position)], [ahead, int])
                self.assertIs(type(failed.__cause__), error)
                if error is InvalidCommand:
                    self.assertEqual(failed.__cause__.value, command)
                self.assertEqual([seen(desk), undone(desk)], before)

    def test_more_is_taken_back_than_was_done(self):
        desk = Desk(race(), ONE_EACH)
        desk.do(0)
        with self.assertRaises(CommandFailed) as caught:
            desk.tell_all("undo", "undo")
        self.assertEqual([caught.exception.position, type(caught.exception.__cause__)], [1, NothingToUndo])
        self.assertEqual([desk.run, len(desk)], [[0], 1])
        self.assertEqual([desk.tell_all("undo"), len(desk)], [["done"], 0])

    def test_each_command_is_a_change_of_its_own(self):
        desk = Desk(race(), ONE_EACH)
        desk.tell_all("do 0", "come a 1", "finish", "finish")
        runs = []
        while len(desk) > 0:
            runs.append(desk.run)
            desk.undo()
        self.assertEqual(runs, [[0, 2], [0, 2], [0], [0]])


class Trials(Case):
    def test_the_desk_is_as_it_was_and_so_is_what_can_be_taken_back(self):
        desk = Desk(race(), {"a": [0, 0], "b": [0, 0]})
        desk.do(1)
        desk += {"a": [3]}
        before = [seen(desk), undone(desk)]
        for row in (["do 0"], ["undo"], ["undo", "undo"], ["undo", "come b 5", "finish"], ["finish"], []):
            with Trial(desk) as held:
                self.assertIs(held, desk)
                desk.tell_all(*row)
                inside = seen(held)
            self.assertEqual([seen(desk), undone(desk)], before)
            self.assertEqual(inside != before[0], row != [])

    def test_an_error_leaves_it_and_goes_on(self):
        desk = Desk(race(), ONE_EACH)
        desk.do(0)
        before = [seen(desk), undone(desk)]
        for error in (KeyError("x"), NothingToUndo(), ZeroDivisionError(), StopIteration(), KeyboardInterrupt()):
            with self.assertRaises(type(error)) as caught:
                with Trial(desk) as held:
                    held.finish()
                    held.undo()
                    held.undo()
                    raise error
            self.assertIs(caught.exception, error)
            self.assertEqual([seen(desk), undone(desk)], before)
        with self.assertRaises(CannotBeDone):
            with Trial(desk):
                desk.finish()
                desk.do(0)
        self.assertEqual([seen(desk), undone(desk)], before)

    def test_put_into_one_another(self):
        desk = Desk(free(), {"a": [0] * 4})
        desk.do(0)
        with Trial(desk):
            desk.do(0)
            with Trial(desk) as inner:
                inner.undo()
                inner.undo()
                with Trial(desk):
                    desk.finish()
                    self.assertEqual(desk.run, [0] * 4)
                self.assertEqual([desk.run, len(desk)], [[], 0])
            self.assertEqual([desk.run, len(desk)], [[0, 0], 2])
            with self.assertRaises(NothingToUndo):
                with Trial(desk):
                    for _ in range(3):
                        desk.undo()
            self.assertEqual([desk.run, len(desk)], [[0, 0], 2])
        self.assertEqual([desk.run, len(desk)], [[0], 1])

    def test_one_trial_again_and_made_ahead(self):
        desk = Desk(free(), {"a": [0] * 4})
        trial = Trial(desk)
        desk.do(0)
        for _ in range(2):
            with trial as held:
                held.finish()
            self.assertEqual([desk.run, len(desk)], [[0], 1])
        desk.do(0)
        with trial:
            desk.undo()
        self.assertEqual([desk.run, len(desk)], [[0, 0], 2])

    def test_a_block_that_is_left(self):
        desk = Desk(free(), {"a": [0] * 4})

        def leave():
            with Trial(desk) as held:
                held.finish()
                return held.run

        self.assertEqual([leave(), desk.run], [[0] * 4, []])
        for _ in range(2):
            with Trial(desk):
                desk.do(0)
                continue
        self.assertEqual(desk.run, [])

    def test_it_goes_on_behind(self):
        desk = Desk(race(), ONE_EACH)
        with Trial(desk):
            desk.do(0)
        desk.do(1)
        self.assertEqual([desk.run, desk.undo(), desk.run], [[1], None, []])

    def test_tried(self):
        desk = Desk(race(), ONE_EACH)
        before = seen(desk)
        told = []
        self.assertIs(tried(desk, told.append), None)
        self.assertIs(told[0], desk)
        self.assertEqual(tried(desk, lambda held: held.do(0)), [2])
        self.assertEqual(tried(desk, Desk.finish), 2)
        marker = object()
        self.assertIs(tried(desk, lambda held: marker), marker)
        self.assertEqual(tried(desk, lambda held: [held.do(0), tried(held, Desk.finish), held.run]), [[2], 1, [0]])
        for error in (KeyError, ValueError):
            def fail(held):
                held.finish()
                raise error("x")

            with self.assertRaises(error):
                tried(desk, fail)
        self.refused(CannotBeDone, {"value": 2}, tried, desk, lambda held: held.do(2))
        self.assertEqual(seen(desk), before)


class Kept(Case):
    def test_what_is_passed_stays(self):
        streams, more = {"b": [0], "a": (0,)}, {"a": [1, 2]}
        kept = copy.deepcopy([streams, more])
        desk = Desk(race(), streams)
        desk += more
        desk.finish()
        self.assertEqual([streams, more, list(streams)], [*kept, ["b", "a"]])

    def test_it_copies_what_it_is_given(self):
        streams, more = {"a": [0]}, {"b": [0]}
        desk = Desk(race(), streams)
        desk += more
        streams["a"].append(5)
        more["b"].clear()
        self.assertEqual([desk["a"], desk["b"]], [[0], [0]])

    def test_what_is_told_is_new(self):
        desk = Desk(race(), ONE_EACH)
        before = seen(desk)
        desk.run.append(0)
        desk["a"].append(5)
        desk["o"].append(5)
        desk.machine.reactions().clear()
        tried(desk, lambda held: held.do(0)).append(7)
        self.assertEqual(seen(desk), before)
        for told, kind in [(desk.run, list), (desk["a"], list), (desk.state, tuple), (desk.tell_all(), list)]:
            self.assertIs(type(told), kind)
        self.assertEqual([type(part) for part in desk.state + desk.state[1] + desk.state[2]], [int] + [tuple] * 5)

    def test_without_reactions(self):
        desk = Desk(Machine(["a"], [], 1, []), {"a": [1]})
        self.assertEqual([desk.finish(), desk.tell("can"), len(desk), 0 in desk], [0, "-", 1, False])
        twins = Desk(chooser([{"o": 1}, {"o": 2}]), {"a": [0, 0]})
        self.assertEqual([twins.do(1), twins.finish(), twins["o"]], [[0, 1], 1, [2, 1]])
        self.assertIs(Same() in twins, False)


if __name__ == "__main__":
    unittest.main()
