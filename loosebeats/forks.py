"""Forks: two agreeing reactions of one standing, and what their heads alone lead to.

LEFT is what is left of heads, as a tuple of pairs (place of the in-line, worth). A MEETING
is a tuple (standing, left, flows): there a run by heads ends, flows being empty at first.
"""

from heapq import heappop, heappush

from loosebeats.machines import do_agree, heads
from loosebeats.steps import no_flows, steps_of


def agreeing(machine):
    """The sorted list of the tuples of two agreeing reactions of a reached standing, the lesser ahead."""
    pairs = []
    for standing in machine.reached():
        numbers = machine.at(standing)
        pairs.extend([(one, other) for one in numbers for other in numbers if one < other])
    return sorted([(one, other) for one, other in pairs if do_agree(machine, one, other)])


def cheapest(machine):
    """For each reached standing a tuple (worths, run): a run to it that takes the fewest worths."""
    steps = steps_of(machine)
    found = {}
    waiting = [(0, [], 0)]
    while len(waiting) > 0:
        worths, run, standing = heappop(waiting)
        if standing not in found:
            found[standing] = (worths, run)
            for number, takes, _, goal in steps[standing]:
                heappush(waiting, (worths + len(takes), run + [number], goal))
    return found


def flows_ahead(gives, flows):
    """The flows when the gives were given ahead of them."""
    worths = dict(gives)
    return tuple([(worths[at],) + flow if at in worths else flow for at, flow in enumerate(flows)])


class Forks:
    """The forks of one machine; it keeps what it has found."""

    def __init__(self, machine):
        self._machine = machine
        self._steps = steps_of(machine)
        self._numbered = {step[0]: step for steps in self._steps for step in steps}
        self._flows = no_flows(machine)
        self._met = {}

    def search(self, standing, left):
        """All meetings that runs from a standing come to, each with one such run."""
        found = {(standing, left, self._flows): []}
        for number, takes, _, _ in self._steps[standing]:
            if all([pair in left for pair in takes]):
                for meeting, run in self.behind(number, left).items():
                    if meeting not in found:
                        found[meeting] = [number] + run
        return found

    def met(self, standing, left):
        """What search finds, looked for once."""
        key = (standing, left)
        if key not in self._met:
            self._met[key] = self.search(standing, left)
        return self._met[key]

    def behind(self, number, left):
        """All meetings of runs with this reaction first, each with what is done behind it."""
        _, takes, gives, goal = self._numbered[number]
        rest = tuple([pair for pair in left if pair not in takes])
        return {
            (standing, still, flows_ahead(gives, flows)): run
            for (standing, still, flows), run in self.met(goal, rest).items()
        }

    def closing(self, one, other):
        """A closing of two reactions; None if they do not close; raises NotAgreeing if they do not agree."""
        ins = self._machine.ins
        both = tuple([(ins.index(line), worth) for line, worth in heads(self._machine, one, other).items()])
        others = self.behind(other, both)
        for meeting, run in self.behind(one, both).items():
            if meeting in others:
                return (list(run), list(others[meeting]))
        return None

    def least_open(self):
        """A tuple (worths, one, other): two that do not close, and how many worths lead there and are
        their heads, which are the fewest; None if all close."""
        ways = cheapest(self._machine)
        rows = []
        for one, other in agreeing(self._machine):
            worths, _ = ways[self._machine[one][0]]
            rows.append((worths + len(heads(self._machine, one, other)), one, other))
        for row in sorted(rows):
            if self.closing(row[1], row[2]) is None:
                return row
        return None
