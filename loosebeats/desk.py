"""A desk: a machine and streams, and what was done, which can be taken back."""

from loosebeats.checks import check_line, check_number, check_streams
from loosebeats.commands import read_command
from loosebeats.errors import BeatError, CannotBeDone, CommandFailed, NothingToUndo, StateError
from loosebeats.kinds import is_integer
from loosebeats.steps import can_take, end_at, full_way, no_flows, no_spots, place_behind, queues_of, steps_of


def line_word(numbers):
    """The numbers with one blank between; a dash for none."""
    return " ".join([str(number) for number in numbers]) if len(numbers) > 0 else "-"


class Desk:
    """A machine and streams, of which reactions are done.

    A record is a tuple (END, run) of what was done: the last one is that of now, those ahead
    are what can be taken back. They stand in one tuple, so to keep it is to keep all.
    """

    def __init__(self, machine, streams):
        check_streams(machine, streams)
        self._machine = machine
        self._steps = steps_of(machine)
        rests = tuple([tuple(queue) for queue in queues_of(machine, streams)])
        self.records = (((0, rests, no_flows(machine)), ()),)

    @property
    def machine(self):
        """The machine."""
        return self._machine

    @property
    def state(self):
        """The END of what was done."""
        return self.records[-1][0]

    @property
    def run(self):
        """The list of the reactions done."""
        return list(self.records[-1][1])

    def _able(self):
        """The list of the steps that can be done."""
        standing, rests, _ = self.state
        return [step for step in self._steps[standing] if can_take(step[1], rests, no_spots(self._machine))]

    def _keep(self, end, run):
        """Makes this what was done; it can be taken back."""
        self.records = self.records + ((end, run),)

    def _take_way(self, way):
        """Does the steps of a way, as one change."""
        standing, rests, flows = self.state
        place = place_behind((standing, no_spots(self._machine), flows), way)
        self._keep(end_at(rests, place), tuple(self.run + [step[0] for step in way]))

    def _come(self, streams):
        """More worths come behind the rests."""
        check_streams(self._machine, streams)
        standing, rests, flows = self.state
        more = queues_of(self._machine, streams)
        longer = tuple([rest + tuple(worths) for rest, worths in zip(rests, more)])
        self._keep((standing, longer, flows), tuple(self.run))

    def do(self, number):
        """Does a reaction; the list of the numbers of those that can be done then."""
        check_number(self._machine, number)
        way = [step for step in self._able() if step[0] == number]
        if len(way) == 0:
            raise CannotBeDone(number)
        self._take_way(way)
        return [step[0] for step in self._able()]

    def finish(self):
        """Does the reaction of the least number that can be done until none can; how many were done."""
        standing, rests, flows = self.state
        way = full_way(self._steps, rests, (standing, no_spots(self._machine), flows))
        self._take_way(way)
        return len(way)

    def undo(self):
        """Takes the last change back."""
        if len(self.records) == 1:
            raise NothingToUndo()
        self.records = self.records[:-1]

    def _does(self, word, told):
        """Does the change of a command; tells whether it is one."""
        if word == "do":
            self.do(told)
        elif word == "finish":
            self.finish()
        elif word == "undo":
            self.undo()
        elif word == "come":
            self._come(told)
        else:
            return False
        return True

    def tell(self, command):
        """The answer to a command."""
        word, told = read_command(self._machine, command)
        if self._does(word, told):
            return "done"
        if word == "can":
            return line_word([step[0] for step in self._able()])
        if word == "line":
            return line_word(self[told])
        return str(self.state[0])

    def tell_all(self, *commands):
        """The list of the answers to commands; if one fails, none has an effect."""
        kept = self.records
        answers = []
        for position, command in enumerate(commands):
            try:
                answers.append(self.tell(command))
            except (BeatError, StateError) as error:
                self.records = kept
                raise CommandFailed(position) from error
        return answers

    def __iadd__(self, other):
        self._come(other)
        return self

    def __getitem__(self, at):
        check_line(self._machine, at)
        _, rests, flows = self.state
        lines = self._machine.ins + self._machine.outs
        return list((rests + flows)[lines.index(at)])

    def __iter__(self):
        raise TypeError("a Desk is not iterated over: desk[line] is what stands on a line")

    def __len__(self):
        return len(self.records[1:])

    def __contains__(self, x):
        return is_integer(x) and x in [step[0] for step in self._able()]


class Trial:
    """A block in which a desk is tried: behind it, it is as it was ahead."""

    def __init__(self, desk):
        self._desk = desk
        self._kept = desk.records

    def __enter__(self):
        self._kept = self._desk.records
        return self._desk

    def __exit__(self, kind, value, trace):
        self._desk.records = self._kept


def tried(desk, action):
    """What an action tells for a desk, which is then as it was."""
    with Trial(desk) as held:
        answer = action(held)
    return answer
