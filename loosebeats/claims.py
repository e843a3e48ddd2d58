"""Claims about machines and pairs, whether they are true, and the papers that show it."""

from loosebeats.alike import are_closings, closings, is_alike, is_quarrel, quarrel
from loosebeats.beats import are_bounds
from loosebeats.checks import is_end
from loosebeats.contents import Contents
from loosebeats.errors import InvalidClaim, InvalidRun, TooMany
from loosebeats.kinds import are_integers, are_streams, is_integer, is_line
from loosebeats.leads import are_heights, heights, is_ring, ring
from loosebeats.like import are_pairs, is_shown, pairs_of, shown
from loosebeats.machines import Machine
from loosebeats.rounds import ranks, stranding, strands
from loosebeats.runs import MOST_WORTHS, is_full, run_end, run_to
from loosebeats.smooth import is_rough_place, rough_place
from loosebeats.stores import Pair, is_standstill, standstill


def are_twins(parts):
    """Tells whether the parts are two Machines with the same lines."""
    if len(parts) != 2 or not all([isinstance(part, Machine) for part in parts]):
        return False
    one, other = parts
    return one.ins == other.ins and one.outs == other.outs


def are_for_lines(parts, many):
    """Tells whether the parts begin with a Machine, and so many of its lines."""
    if not isinstance(parts[0], Machine):
        return False
    lines = parts[0].ins + parts[0].outs
    return all([is_line(part, lines) for part in parts[1:many + 1]])


def are_for_end(parts):
    """Tells whether the parts are a Machine, streams of few worths, and what has the form of an END."""
    if len(parts) != 3 or not isinstance(parts[0], Machine):
        return False
    machine, streams, end = parts
    if not are_streams(streams, machine.ins) or not is_end(machine, end):
        return False
    return sum([len(worths) for worths in streams.values()]) <= MOST_WORTHS


def are_for_sizes(parts):
    """Tells whether the parts are a Pair and sizes with which not too much is come to."""
    if len(parts) != 2 or not isinstance(parts[0], Pair) or not are_bounds(parts[0], parts[1]):
        return False
    try:
        Contents(parts[0], parts[1]).ways()
    except TooMany:
        return False
    return True


def do_fit(word, parts):
    """Tells whether the parts behind a word are what it is about."""
    match word:
        case "alike" | "quarrel" | "rough":
            return len(parts) == 1 and isinstance(parts[0], Machine)
        case "same" | "other":
            return are_twins(parts)
        case "can end":
            return are_for_end(parts)
        case "lead":
            return len(parts) == 4 and are_for_lines(parts, 2) and is_integer(parts[3])
        case "endless":
            return len(parts) == 3 and are_for_lines(parts, 2)
        case "standstill" | "enough":
            return are_for_sizes(parts)
        case "live" | "stranded":
            return len(parts) == 2 and are_for_lines(parts, 1)
    return False


def is_claim(value):
    """Tells whether any value is a claim."""
    if not isinstance(value, tuple) or len(value) == 0 or not isinstance(value[0], str):
        return False
    return do_fit(value[0], value[1:])


def check_claim(claim):
    """Raises InvalidClaim unless it is a claim."""
    if not is_claim(claim):
        raise InvalidClaim(claim)


def paper_of_two(word, one, other):
    """A paper of a claim about two machines; None if it is not true."""
    if not is_alike(one) or not is_alike(other):
        return None
    return pairs_of(one, other) if word == "same" else shown(one, other)


def paper_of_lead(machine, line, other, number):
    """Heights of at most the number; None if there are none."""
    found = heights(machine, line, other)
    return None if found is None or max(list(found.values())) > number else found


def true_paper(word, parts):
    """A paper of the claim with this word and these parts; None if it is not true."""
    match word:
        case "alike":
            return closings(*parts)
        case "quarrel":
            return quarrel(*parts)
        case "rough":
            return rough_place(*parts)
        case "same" | "other":
            return paper_of_two(word, *parts)
        case "can end":
            return run_to(*parts)
        case "lead":
            return paper_of_lead(*parts)
        case "endless":
            return ring(*parts)
        case "standstill":
            return standstill(*parts)
        case "enough":
            return Contents(*parts).cover()
        case "live":
            return ranks(*parts)
        case "stranded":
            return stranding(*parts)
    return None


def paper_of(claim):
    """A paper of the claim; None if it is not true."""
    check_claim(claim)
    return true_paper(claim[0], claim[1:])


def is_true(claim):
    """Tells whether a claim is true."""
    return paper_of(claim) is not None


def ends_so(machine, streams, end, value):
    """Tells whether any value is a full run of the streams that ends so."""
    try:
        return run_end(machine, streams, value) == end and is_full(machine, streams, value)
    except InvalidRun:
        return False


def are_low_heights(machine, line, other, number, value):
    """Tells whether any value is heights of at most a number, which may be less than 0."""
    return number >= 0 and are_heights(machine, line, other, number, value)


def are_ranks(machine, line, value):
    """Tells whether any value is the ranks of the line."""
    if not isinstance(value, dict) or not are_integers(list(value)) or not are_integers(list(value.values())):
        return False
    return value == ranks(machine, line)


def is_paper(claim, value):
    """Tells whether any value is a paper of the claim."""
    check_claim(claim)
    word, *parts = claim
    match word:
        case "alike":
            return are_closings(*parts, value)
        case "quarrel":
            return is_quarrel(*parts, value)
        case "rough":
            return is_rough_place(*parts, value)
        case "same":
            return are_pairs(*parts, value)
        case "other":
            return is_shown(*parts, value)
        case "can end":
            return ends_so(*parts, value)
        case "lead":
            return are_low_heights(*parts, value)
        case "endless":
            return is_ring(*parts, value)
        case "standstill":
            return is_standstill(*parts, value)
        case "enough":
            return Contents(*parts).is_cover(value)
        case "live":
            return are_ranks(*parts, value)
        case "stranded":
            return strands(*parts, value)
    return False
