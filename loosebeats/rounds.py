"""Lines that can always come again, and runs that lead back to where they began."""

from loosebeats.checks import check_line, check_reached, check_standing
from loosebeats.errors import InvalidCounts, InvalidRun, TooMany
from loosebeats.kinds import is_count, is_line
from loosebeats.lines import first_run_to, has_line, reached_rows
from loosebeats.runs import stands_at
from loosebeats.steps import spots_behind, steps_of
from loosebeats.ways import first_shortest

MOST_COUNTS = 12


def rank_by(reaction, line, known):
    """The rank of its standing if this reaction is done there; None as long as its next has none."""
    if has_line(reaction, line):
        return 1
    goal = reaction[3]
    return known[goal] + 1 if goal in known else None


def next_ranks(rows, line, known):
    """The ranks that are known, with those of one reaction more."""
    more = dict(known)
    for _, row in rows:
        rank = rank_by(row, line, known)
        if rank is not None:
            more[row[0]] = min(rank, more.get(row[0], rank))
    return more


def known_ranks(machine, line):
    """The ranks of all reached standings from which some run has the line, in order."""
    rows = reached_rows(machine)
    known = {}
    more = next_ranks(rows, line, known)
    while more != known:
        known = more
        more = next_ranks(rows, line, known)
    return {standing: known[standing] for standing in sorted(list(known))}


def is_live(machine, line):
    """Tells whether from each reached standing some run has the line."""
    return ranks(machine, line) is not None


def ranks(machine, line):
    """How many reactions are at least done until one has the line; None if the line is not live."""
    check_line(machine, line)
    known = known_ranks(machine, line)
    return known if len(known) == len(machine.reached()) else None


def stranding(machine, line):
    """The first one of the shortest runs that strand the line; None if it is live."""
    check_line(machine, line)
    known = known_ranks(machine, line)
    return first_run_to(machine, [standing for standing in machine.reached() if standing not in known])


def strands(machine, line, value):
    """Tells whether any value is a run that strands the line."""
    check_line(machine, line)
    try:
        standing = stands_at(machine, value)
    except InvalidRun:
        return False
    return standing not in known_ranks(machine, line)


def never_done(machine):
    """The list of the numbers of the reactions that are not reached."""
    reached = machine.reached()
    return [number for number, row in enumerate(machine.reactions()) if row[0] not in reached]


def resting(machine):
    """The sorted list of the reached standings without a reaction."""
    return [standing for standing in machine.reached() if len(machine.at(standing)) == 0]


def check_counts(machine, counts):
    """Raises the error of wrong counts."""
    if not isinstance(counts, dict):
        raise InvalidCounts(counts)
    ins = machine.ins
    if not all([is_line(line, ins) and is_count(count) for line, count in counts.items()]):
        raise InvalidCounts(counts)
    if sum(list(counts.values())) > MOST_COUNTS:
        raise TooMany("counts", MOST_COUNTS)


def round_with(machine, standing, counts):
    """The first one of the shortest rounds from a standing that take the counts; None if there is none."""
    check_standing(machine, standing)
    check_counts(machine, counts)
    check_reached(machine, standing)
    whole = tuple([counts.get(line, 0) for line in machine.ins])
    steps = steps_of(machine)

    def moves_of(state):
        here, spots = state
        moves = [(number, (goal, spots_behind(spots, takes))) for number, takes, _, goal in steps[here]]
        return [move for move in moves if are_at_most(move[1][1], whole)]

    begin = tuple([0 for _ in whole])
    return first_shortest((standing, begin), moves_of, lambda state: state == (standing, whole))


def are_at_most(spots, whole):
    """Tells whether no more is taken from any line than the whole."""
    return all([spot <= count for spot, count in zip(spots, whole)])
