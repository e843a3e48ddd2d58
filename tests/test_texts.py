"""Texts of machines and of streams, and what is read back from them."""

import copy
import random
import re
import unittest

from loosebeats import texts
from loosebeats.errors import InvalidStreams, InvalidText
from loosebeats.machines import Machine
from loosebeats.texts import bytes_of, read_machine, read_streams, text_of, text_of_streams
from samples import Case, dict_order, forty, free, loose, made_up, odd_values, race, small_streams, wrong_streams

PARAMETERS = {
    "text_of": ["machine"],
    "text_of_streams": ["machine", "streams"],
    "bytes_of": ["machine"],
    "read_machine": ["text"],
    "read_streams": ["machine", "text"],
}

RACE = "machine 2\nin a b\nout o\n0 a=0 > > 1\n0 b=0 > o=0 > 0\n1 b=0 > o=1 > 1\n"


def text_by_hand(machine):
    rows = [f"machine {machine.standings}", "in " + " ".join(machine.ins)]
    rows.append("out " + " ".join(machine.outs) if machine.outs else "out")
    for standing, takes, gives, goal in machine.reactions():
        taken = " ".join(f"{line}={takes[line]}" for line in machine.ins if line in takes)
        given = "".join(f"{line}={gives[line]} " for line in machine.outs if line in gives)
        rows.append(f"{standing} {taken} > {given}> {goal}")
    return "".join(row + "\n" for row in rows)


def streams_text_by_hand(machine, streams):
    return "".join(
        " ".join([line, *map(str, streams[line])]) + "\n" for line in machine.ins if len(streams.get(line, [])) > 0
    )


NUMBER = "(0|[1-9][0-9]*)"
NAME = "[a-z]{1,8}"
WORTH = "[0-9]"


def in_sequence(words, lines):
    places = [lines.index(word.split("=")[0]) if word.split("=")[0] in lines else -1 for word in words]
    return -1 not in places and all(one < other for one, other in zip(places, places[1:]))


def wrong_line_by_hand(text):
    """The number of the first wrong line of a text of a machine, by patterns; None if none is wrong."""
    rows = text.split("\n")
    ended, tail = rows[:-1], rows[-1]
    lines, seen, standings = [], [], 0
    for at, row in enumerate(ended, 1):
        if at == 1:
            told = re.fullmatch(f"machine {NUMBER}", row)
            if not told or not 1 <= int(told[1]) <= 12:
                return 1
            standings = int(told[1])
        elif at <= 3:
            told = re.fullmatch((f"in(( {NAME})+)", f"out(( {NAME})*)")[at - 2], row)
            names = told[1].split() if told else []
            if not told or len(names) > 6 - at or len(set(sum(lines, []) + names)) < len(sum(lines, []) + names):
                return at
            lines.append(names)
        else:
            told = re.fullmatch(f"{NUMBER}(( {NAME}={WORTH})+) >(( {NAME}={WORTH})*) > {NUMBER}", row)
            if not told or int(told[1]) >= standings or int(told[6]) >= standings or row in seen or at > 43:
                return at
            if not in_sequence(told[2].split(), lines[0]) or not in_sequence(told[4].split(), lines[1]):
                return at
            seen.append(row)
    if tail != "" or len(ended) < 3:
        return len(rows)
    return None


def wrong_stream_line_by_hand(machine, text):
    rows = text.split("\n")
    seen = []
    for at, row in enumerate(rows[:-1], 1):
        told = re.fullmatch(f"({NAME})( {WORTH})+", row)
        if not told or not in_sequence([*seen, told[1]], machine.ins):
            return at
        seen.append(told[1])
    return None if rows[-1] == "" else len(rows)


def with_one_sign_otherwise(text, signs="ab0129=> \nmzo"):
    """All texts with one sign less, otherwise or more."""
    for at in range(len(text) + 1):
        if at < len(text):
            yield text[:at] + text[at + 1 :]
        for sign in signs:
            yield text[:at] + sign + text[at:]
            if at < len(text):
                yield text[:at] + sign + text[at + 1 :]


def cut(text):
    """The text with some lines left out, put twice, or changed with the next ones."""
    rows = text.split("\n")
    for at in range(len(rows)):
        yield "\n".join(rows[:at] + rows[at + 1 :])
        yield "\n".join(rows[:at] + rows[at : at + 1] + rows[at:])
        yield "\n".join(rows[:at] + rows[at : at + 2][::-1] + rows[at + 2 :])
        yield "\n".join(rows[:at])
        yield "\n".join(rows[:at] + [""])


class Interface(Case):
    def test_what_is_listed_is_defined_there_with_its_names(self):
        self.listed(texts, PARAMETERS)

    def test_examples(self):
        self.assertEqual(text_of(race()), RACE)

    def test_arguments_by_name(self):
        self.assertEqual([text_of(machine=race()), bytes_of(machine=race())], [RACE, RACE.encode()])
        self.assertEqual(text_of_streams(streams={"a": [1]}, machine=race()), "a 1\n")
        self.assertEqual(read_machine(text=RACE), race())
        self.assertEqual(read_streams(text="a 1\n", machine=race()), {"a": [1]})


class Told(Case):
    def test_machines_by_hand(self):
        rng = random.Random(91)
        for place in range(200):
            machine = made_up(rng)[0] if place % 2 else loose(rng)
            told = text_of(machine)
            self.assertEqual([told, type(told)], [text_by_hand(machine), str])
            self.assertEqual([bytes_of(machine), type(bytes_of(machine))], [told.encode("ascii"), bytes])
            self.assertEqual([read_machine(told), type(read_machine(told))], [machine, Machine])
            self.assertIsNone(wrong_line_by_hand(told))

    def test_without_out_lines_without_gives_and_without_reactions(self):
        machine = Machine(["a"], [], 12, [])
        self.assertEqual(text_of(machine), "machine 12\nin a\nout\n")
        self.assertEqual(read_machine("machine 12\nin a\nout\n"), machine)
        machine = Machine(["a"], [], 12, [(10, {"a": 9}, {}, 11)])
        self.assertEqual(text_of(machine), "machine 12\nin a\nout\n10 a=9 > > 11\n")
        self.assertEqual(read_machine(text_of(machine)), machine)

    def test_takes_and_gives_in_the_sequence_of_the_machine(self):
        machine = Machine(["z", "a"], ["q", "b"], 1, [(0, {"a": 1, "z": 2}, {"b": 3, "q": 4}, 0)])
        self.assertEqual(text_of(machine), "machine 1\nin z a\nout q b\n0 z=2 a=1 > q=4 b=3 > 0\n")

    def test_the_greatest_machine(self):
        rows = [(k % 12, {line: (k + at) % 10 for at, line in enumerate(["ins", "machine", "outs", "abcdefgh"])},
                 {line: k % 7 for line in ["in", "out", "o"]}, 11 - k % 12) for k in range(40)]
        machine = Machine(["ins", "machine", "outs", "abcdefgh"], ["in", "out", "o"], 12, rows)
        self.assertEqual(read_machine(text_of(machine)), machine)
        self.assertEqual(text_of(machine), text_by_hand(machine))

    def test_streams(self):
        machine = Machine(["b", "a", "c"], ["o"], 1, [])
        self.assertEqual(text_of_streams(machine, {"c": (9, 0), "b": [1], "a": []}), "b 1\nc 9 0\n")
        self.assertEqual([text_of_streams(machine, {}), text_of_streams(machine, {"a": []})], ["", ""])
        for streams in small_streams(race(), 4, (0, 7)):
            told = text_of_streams(race(), streams)
            self.assertEqual(told, streams_text_by_hand(race(), streams))
            self.assertEqual(dict_order(read_streams(race(), told)), dict_order(streams))
        long = {"a": [3] * 2000, "b": [4] * 2000}
        self.assertEqual(read_streams(race(), text_of_streams(race(), long)), long)

    def test_wrong_streams(self):
        for streams in wrong_streams():
            self.refused(InvalidStreams, {"value": streams}, text_of_streams, race(), streams)


class ReadMachine(Case):
    def wrong(self, line, text):
        self.refused(InvalidText, {"line": line}, read_machine, text)

    def test_no_strings(self):
        for value in [*odd_values(), 0, 1, RACE.encode(), [RACE], (RACE,), {}, RACE.split("\n")]:
            self.wrong(1, value)

    def test_one_sign_more_less_or_otherwise(self):
        other = "machine 12\nin a bc\nout\n0 a=0 bc=9 > > 11\n10 bc=0 > > 1\n"
        for text in (RACE, other, "machine 1\nin a\nout o b\n"):
            right = 0
            for changed in with_one_sign_otherwise(text):
                right += self.judged(changed)
            self.assertGreater(right, 20)

    def judged(self, text):
        """Whether it is a text; else it is refused with its first wrong line."""
        line = wrong_line_by_hand(text)
        if line is None:
            told = read_machine(text)
            self.assertEqual(text_of(told), text)
            self.assertEqual(told == read_machine(RACE), text == RACE)
            return True
        self.wrong(line, text)
        return False

    def test_lines_that_lack_stand_twice_or_in_another_sequence(self):
        for text in (RACE, "machine 1\nin a\nout\n", text_of(free())):
            for changed in cut(text):
                self.judged(changed)
                self.judged(changed + "\n")

    def test_lines_that_lack(self):
        self.wrong(1, "")
        self.wrong(2, "machine 1\n")
        self.wrong(3, "machine 1\nin a\n")
        self.wrong(1, "machine 1")
        self.wrong(2, "machine 1\nin a")
        self.wrong(3, "machine 1\nin a\nout")
        self.wrong(4, "machine 1\nin a\nout\n\n")
        self.wrong(4, "machine 1\nin a\nout\n0 a=0 > > 0")
        self.wrong(1, "\n")
        self.wrong(1, "\n" + RACE)
        self.wrong(7, RACE + "\n")
        self.wrong(6, RACE[:-1])
        self.wrong(7, RACE + " ")

    def test_the_first_wrong_line_counts(self):
        rows = RACE.split("\n")
        for at in range(6):
            for behind in range(at, 6):
                changed = list(rows)
                changed[at] = changed[behind] = "x"
                self.wrong(at + 1, "\n".join(changed))
        self.wrong(2, "machine 1\nin 1\nout")

    def test_first_lines(self):
        good = "\nin a\nout\n"
        for row in ["machine 1", "machine 9", "machine 10", "machine 12"]:
            self.assertEqual(read_machine(row + good).standings, int(row[8:]))
        for row in ["machine 0", "machine 13", "machine 01", "machine 012", "machine", "machine ", "machine  1", "machine -1"]:
            self.wrong(1, row + good)
        for row in ["machine 1 ", " machine 1", "Machine 1", "machine +1", "machine 1 1", "machine a", "machin 1", "1", ""]:
            self.wrong(1, row + good)
        for row in ["machine " + "9" * 5000, "machine " + "0" * 5000 + "1", "machine 1.0", "machine 1_0", "machine\t1"]:
            self.wrong(1, row + good)

    def test_in_lines(self):
        for row in ["in a", "in a b c d", "in abcdefgh", "in in out o machine"[:15]]:
            self.assertEqual(read_machine(f"machine 1\n{row}\nout\n").ins, row.split(" ")[1:])
        wrong = ["in", "in ", "in a ", "in  a", "in a  b", " in a", "in a b c d e", "in a a", "in a b a", "in A", "in a1", "in 1"]
        wrong += ["in abcdefghi", "In a", "out a", "in a,b", "ina", "", "a", "in a=0", "in " + "a " * 3000 + "b"]
        for row in wrong:
            self.wrong(2, f"machine 1\n{row}\nout\n")

    def test_out_lines(self):
        for row in ["out", "out o", "out p o q", "out abcdefgh", "out in out machine"]:
            self.assertEqual(read_machine(f"machine 1\nin a\n{row}\n").outs, row.split(" ")[1:])
        wrong = ["out ", "out o ", "out  o", "out o  p", " out", "out o p q r", "out o o", "out a", "out o a", "out O"]
        wrong += ["out abcdefghi", "Out", "in o", "", "o", "outo", "out o=1", "out 1"]
        for row in wrong:
            self.wrong(3, f"machine 1\nin a\n{row}\n")

    def test_reactions(self):
        head = "machine 11\nin a b\nout o p\n"
        rows = ["0 a=0 > > 0", "10 b=9 > p=9 > 10", "0 a=0 b=1 > o=2 p=3 > 1"]
        self.assertEqual(len(read_machine(head + "\n".join(rows) + "\n")), 3)
        wrong = ["0 > > 0", "0 a=0 > 0", "0 a=0 > > >", "a=0 > > 0", "0 a=0 > >", "0 a=0 > >  0", "0 a=0  > > 0", "0 a=0 >  > 0"]
        wrong += ["0 b=0 a=0 > > 0", "0 a=0 > p=0 o=0 > 0", "0 a=0 a=0 > > 0", "0 a=0 a=1 > > 0", "0 a=0 > o=1 o=1 > 0"]
        wrong += ["11 a=0 > > 0", "0 a=0 > > 11", "00 a=0 > > 0", "0 a=0 > > 00", "0 a=00 > > 0", "0 a=10 > > 0", "0 a=-1 > > 0"]
        wrong += ["0 o=0 > > 0", "0 a=0 > a=0 > 0", "0 c=0 > > 0", "0 a > > 0", "0 a= > > 0", "0 =0 > > 0", "0 a==0 > > 0"]
        wrong += ["0 a=0 > > 0 ", " 0 a=0 > > 0", "0 a=0 > > > 0", "0 a=0 >> 0", "0 a=0 > > 0 0", "0 0 a=0 > > 0", "", " ", ">"]
        wrong += ["> >", "> > >", "0 > a=0 > 0", "-1 a=0 > > 0", "0 a=0 > > -1", "0 a=0,b=0 > > 0", "x a=0 > > 0", "0 a=0 > > x"]
        wrong += ["0 a=x > > 0", "0 a=0 < > 0", "0 A=0 > > 0", "9" * 5000 + " a=0 > > 0", "0 a=0 > > " + "0" * 5000]
        wrong += ["0 " + "a=0 " * 3000 + "> > 0", "0 a=0=0 > > 0", "0 a:0 > > 0", "machine 1", "in a", "out"]
        for row in wrong:
            self.wrong(4, head + row + "\n")
            self.wrong(5, head + rows[0] + "\n" + row + "\n" + rows[1] + "\n")
        self.wrong(6, head + rows[0] + "\n" + rows[1] + "\n" + rows[0] + "\n")

    def test_forty_reactions_and_forty_one(self):
        text = text_of(Machine(list("abcd"), [], 1, forty()))
        self.assertEqual(len(read_machine(text)), 40)
        self.wrong(44, text + "0 a=0 b=0 > > 0\n")
        self.wrong(44, text + "0 a=0 b=0 > > 0\n0 a=0 b=1 > > 0\n")
        self.wrong(44, text + "0 a=0 b=0 > > 0")
        self.wrong(44, text + "x\n")
        self.wrong(43, text[:-1])
        self.wrong(43, text.replace("0 d=9 > > 0", "0 a=0 > > 0"))


class ReadStreams(Case):
    def wrong(self, line, text, machine=None):
        self.refused(InvalidText, {"line": line}, read_streams, race() if machine is None else machine, text)

    def test_ordinary(self):
        self.assertEqual([read_streams(race(), ""), read_streams(race(), "b 0 9\n")], [{}, {"b": [0, 9]}])
        machine = Machine(["b", "a", "c"], ["o"], 1, [])
        told = read_streams(machine, "b 1\na 2 3\nc 0\n")
        self.assertEqual(dict_order(told), [("b", [1]), ("a", [2, 3]), ("c", [0])])
        self.assertEqual(read_streams(machine, "c " + " ".join("5" * 2000) + "\n"), {"c": [5] * 2000})

    def test_no_strings(self):
        for value in [*odd_values(), 0, 1, b"a 0\n", ["a 0\n"], {}, {"a": [0]}]:
            self.wrong(1, value)

    def test_wrong_lines(self):
        wrong = ["a", "a ", "a 0 ", " a 0", "a  0", "a 0  1", "o 0", "c 0", "a 10", "a 00", "a -1", "a x", "0 a", "", "A 0", "a=0"]
        wrong += ["a " + "1" * 5000, "a 0,1", "a 0 b 0", "aa 0", "a +1", "a 0 1 b", "0"]
        for row in wrong:
            self.wrong(1, row + "\n")
            self.wrong(1, row + "\nb 0\n")
            if row != "":
                self.wrong(1, row)
        for row in wrong + ["a 0"]:
            self.wrong(2, "a 1\n" + row + "\n")
            self.wrong(2, "b 1\n" + row + "\n")
        self.wrong(1, "a 0")
        self.wrong(2, "a 0\nb 1")
        self.wrong(2, "a 0\n\n")
        self.wrong(3, "a 0\nb 1\n ")
        self.wrong(3, "a 0\nb 1\nb 1\n")
        self.wrong(2, "b 0\na 0\n")

    def test_one_sign_more_less_or_otherwise(self):
        machine = Machine(["a", "z", "b"], ["o"], 1, [])
        for text in ("", "a 0\n", "a 0 1\nb 2\n", "a 9\nz 1 2\nb 0\n"):
            right = 0
            for changed in [text, *with_one_sign_otherwise(text), *cut(text)]:
                line = wrong_stream_line_by_hand(machine, changed)
                if line is None:
                    right += 1
                    self.assertEqual(text_of_streams(machine, read_streams(machine, changed)), changed)
                else:
                    self.wrong(line, changed, machine)
            self.assertGreater(right, 0)


class Kept(Case):
    def test_what_is_passed_stays_and_what_is_told_is_new(self):
        streams = {"b": (1, 2), "a": [0]}
        kept = copy.deepcopy(streams)
        machine = race()
        text_of_streams(machine, streams)
        told = read_streams(machine, "a 0\n")
        told["a"].append(1)
        told.clear()
        self.assertEqual([streams, list(streams), machine], [kept, ["b", "a"], race()])
        self.assertEqual(read_streams(machine, "a 0\n"), {"a": [0]})


if __name__ == "__main__":
    unittest.main()
