"""What parameters of the same name must be everywhere: each check raises the error if not.

The machine is passed along, so this file needs none of those that define machines.
"""

from loosebeats.errors import InvalidLine, InvalidNumber, InvalidStanding, InvalidStreams, NotReached
from loosebeats.kinds import are_rows, are_streams, is_below, is_line, is_tuple


def check_number(machine, number):
    """Raises InvalidNumber unless it is the number of a reaction of the machine."""
    if not is_below(number, len(machine)):
        raise InvalidNumber(number)


def check_standing(machine, standing):
    """Raises InvalidStanding unless it is a standing of the machine."""
    if not is_below(standing, machine.standings):
        raise InvalidStanding(standing)


def check_reached(machine, standing):
    """Raises NotReached unless some run comes to the standing."""
    if standing not in machine.reached():
        raise NotReached(standing)


def check_line(machine, line):
    """Raises InvalidLine unless it is an in-line or an out-line of the machine."""
    if not is_line(line, machine.ins + machine.outs):
        raise InvalidLine(line)


def check_streams(machine, streams):
    """Raises InvalidStreams unless they are streams of the machine."""
    if not are_streams(streams, machine.ins):
        raise InvalidStreams(streams)


def is_end(machine, value):
    """Tells whether any value has the form of an END of the machine."""
    if not is_tuple(value, 3):
        return False
    standing, rests, flows = value
    if not is_below(standing, machine.standings):
        return False
    return are_rows(rests, len(machine.ins)) and are_rows(flows, len(machine.outs))
