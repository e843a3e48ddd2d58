"""Likeness: standings and alike machines that tell the same for all streams."""

from loosebeats.alike import check_alike, full_end, is_alike
from loosebeats.checks import check_reached, check_standing
from loosebeats.errors import OtherLines
from loosebeats.kinds import are_integers, are_streams, is_list, is_tuple
from loosebeats.likeness import Likeness
from loosebeats.machines import Machine


def are_like(machine, one, other):
    """Tells whether two standings are like."""
    check_standing(machine, one)
    check_standing(machine, other)
    check_alike(machine, 0)
    check_reached(machine, one)
    check_reached(machine, other)
    return Likeness(machine, machine).are_like((one, other))


def classes(machine):
    """The sorted list of the classes of like reached standings."""
    check_alike(machine, 0)
    likeness = Likeness(machine, machine)
    found = []
    for standing in machine.reached():
        same = [row for row in found if likeness.are_like((row[0], standing))]
        if len(same) > 0:
            same[0].append(standing)
        else:
            found.append([standing])
    return found


def least(machine):
    """The least machine that tells the same."""
    rows = classes(machine)
    goals = {standing: place for place, row in enumerate(rows) for standing in row}
    begins = {row[0]: place for place, row in enumerate(rows)}
    reactions = [
        (begins[standing], takes, gives, goals[goal])
        for standing, takes, gives, goal in machine.reactions()
        if standing in begins
    ]
    return Machine(machine.ins, machine.outs, len(rows), reactions)


def check_same_lines(one, other):
    """Raises OtherLines unless two machines have the same lines, in the same sequence."""
    if one.ins != other.ins or one.outs != other.outs:
        raise OtherLines(one, other)


def check_both(one, other):
    """Raises the error of two machines that cannot be compared."""
    check_same_lines(one, other)
    check_alike(one, 0)
    check_alike(other, 1)


def are_both(one, other):
    """Tells whether two machines with the same lines are both alike."""
    check_same_lines(one, other)
    return is_alike(one) and is_alike(other)


def tells_same(one, other):
    """Tells whether two machines tell the same for all streams."""
    check_both(one, other)
    return Likeness(one, other).are_like((0, 0))


def pairs_of(one, other):
    """The sorted list of the least pairs; None if the machines do not tell the same."""
    check_both(one, other)
    likeness = Likeness(one, other)
    return sorted(list(likeness.words((0, 0)))) if likeness.are_like((0, 0)) else None


def are_pairs(one, other, value):
    """Tells whether any value is a list of pairs that shows that both tell the same."""
    if not are_both(one, other) or not is_list(value):
        return False
    found = {}
    for pair in value:
        if not is_tuple(pair, 2) or not are_integers(pair) or pair in found:
            return False
        found[pair] = True
    return (0, 0) in found and Likeness(one, other).is_closed(found)


def shown(one, other):
    """Streams that show that the machines do not tell the same; None if they do."""
    check_both(one, other)
    word = Likeness(one, other).parting_word((0, 0))
    if word is None:
        return None
    rows = [[worth for letter in word for place, worth in letter if place == at] for at, _ in enumerate(one.ins)]
    return {line: worths for line, worths in zip(one.ins, rows) if len(worths) > 0}


def is_shown(one, other, value):
    """Tells whether any value is streams that show that both do not tell the same."""
    if not are_both(one, other) or not are_streams(value, one.ins):
        return False
    # The standings may be unlike numbers for the same: only rests and flows are told.
    return full_end(one, value)[1:] != full_end(other, value)[1:]
