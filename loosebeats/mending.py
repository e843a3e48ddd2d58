"""What mends a machine: notices, reactions taken away; and which run gives told flows."""

from loosebeats.alike import is_alike
from loosebeats.errors import InvalidFlows, InvalidLines, InvalidNumber, Noticed, TooMany
from loosebeats.forks import Forks, agreeing
from loosebeats.kinds import NOTICE, are_streams, is_below, is_line, is_list
from loosebeats.machines import Machine
from loosebeats.runs import MOST_WORTHS
from loosebeats.steps import can_take, spots_behind, steps_of
from loosebeats.ways import first_shortest


def check_lines(machine, lines):
    """Raises InvalidLines unless they are unlike in-lines of the machine."""
    if not is_list(lines):
        raise InvalidLines(None)
    ins = machine.ins
    for position, line in enumerate(lines):
        if not is_line(line, ins) or line in lines[:position]:
            raise InvalidLines(position)


def check_unnoticed(machine):
    """Raises Noticed if a reaction of the machine takes or gives the notice."""
    for number, (_, takes, gives, _) in enumerate(machine.reactions()):
        if NOTICE in list(takes.values()) + list(gives.values()):
            raise Noticed(number)


def noticed(machine, lines):
    """The machine in which each reaction that does not take from such a line takes the notice there."""
    check_lines(machine, lines)
    check_unnoticed(machine)
    notices = {line: NOTICE for line in lines}
    reactions = [
        (standing, {**notices, **takes}, gives, goal)
        for standing, takes, gives, goal in machine.reactions()
    ]
    return Machine(machine.ins, machine.outs, machine.standings, reactions)


def do_notices_help(machine, lines):
    """Tells whether the machine is alike when it is noticed on the lines."""
    return is_alike(noticed(machine, lines))


def choices(parts, many):
    """All lists of so many of the parts, in their sequence, by their places."""
    if many == 0:
        return [[]]
    found = []
    for place, part in enumerate(parts):
        found.extend([[part] + rest for rest in choices(parts[place + 1:], many - 1)])
    return found


def least_notices(machine):
    """All lists of the fewest in-lines on which it must be noticed to be alike; None if no notices help."""
    ins = machine.ins
    for many in range(len(ins) + 1):
        found = [lines for lines in choices(ins, many) if do_notices_help(machine, lines)]
        if len(found) > 0:
            return found
    return None


def away(machine, numbers):
    """The machine without the reactions of these numbers."""
    if not is_list(numbers):
        raise InvalidNumber(numbers)
    for place, number in enumerate(numbers):
        if not is_below(number, len(machine)) or number in numbers[:place]:
            raise InvalidNumber(number)
    reactions = [reaction for number, reaction in enumerate(machine.reactions()) if number not in numbers]
    return Machine(machine.ins, machine.outs, machine.standings, reactions)


def unclosed(machine):
    """The list of the tuples of two agreeing reactions of a reached standing that do not close."""
    forks = Forks(machine)
    return [(one, other) for one, other in agreeing(machine) if forks.closing(one, other) is None]


def does_help(machine, numbers, pairs):
    """Tells whether the machine without these reactions is alike; the pairs are those that do not close."""
    less = away(machine, numbers)
    reached = less.reached()
    # Without some reactions there are fewer runs, so no pair closes that did not: it must go
    # itself, or its standing must no longer be reached. This spares most of the work.
    for one, other in pairs:
        if one not in numbers and other not in numbers and machine[one][0] in reached:
            return False
    return is_alike(less)


def least_away(machine):
    """All sets of the fewest reactions that help; None if more than two must go."""
    pairs = unclosed(machine)
    for many in range(3):
        sets = choices(list(range(len(machine))), many)
        found = [numbers for numbers in sets if does_help(machine, numbers, pairs)]
        if len(found) > 0:
            return found
    return None


def check_flows(machine, flows):
    """Raises the error of wrong flows."""
    if not are_streams(flows, machine.outs):
        raise InvalidFlows(flows)
    if sum([len(flow) for flow in flows.values()]) > MOST_WORTHS:
        raise TooMany("worths", MOST_WORTHS)


def told_back(machine, flows):
    """The first one of the shortest runs that have just these flows; None if there is none."""
    check_flows(machine, flows)
    queues = [list(flows.get(line, [])) for line in machine.outs]
    whole = tuple([len(queue) for queue in queues])
    steps = steps_of(machine)

    def moves_of(state):
        standing, spots = state
        return [
            (number, (goal, spots_behind(spots, gives)))
            for number, _, gives, goal in steps[standing]
            if can_take(gives, queues, spots)
        ]

    # How much of each flow is given already is told by spots, as what is taken of streams.
    begin = (0, tuple([0 for _ in queues]))
    return first_shortest(begin, moves_of, lambda state: state[1] == whole)
