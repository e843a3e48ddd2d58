"""How far a line can run ahead of another one, and the papers that show it."""

from loosebeats.checks import check_line
from loosebeats.errors import InvalidCount, InvalidRun
from loosebeats.kinds import is_count, is_integer, is_list, is_tuple
from loosebeats.lines import first_run_to, has_line, reached_rows
from loosebeats.runs import stands_at


def check_two(machine, line, other):
    """Raises InvalidLine unless both are lines of the machine."""
    check_line(machine, line)
    check_line(machine, other)


def rise(reaction, line, other):
    """By how much a reaction makes the lead of a line before another one greater."""
    return int(has_line(reaction, line)) - int(has_line(reaction, other))


def rises_of(machine, line, other):
    """The list of the tuples (number, standing, next, rise) of the reached reactions."""
    return [(number, row[0], row[3], rise(row, line, other)) for number, row in reached_rows(machine)]


def greatest_at(rises, leads):
    """The greatest leads at standings, with what one reaction more leads to."""
    more = dict(leads)
    for _, standing, goal, by in rises:
        if standing in leads:
            lead = leads[standing] + by
            more[goal] = max(lead, more.get(goal, lead))
    return more


def heights(machine, line, other):
    """Heights whose greatest is the greatest lead: the greatest leads of runs to each standing;
    None if it is endless."""
    check_two(machine, line, other)
    rises = rises_of(machine, line, other)
    leads = {0: 0}
    # A run that comes to no standing twice has fewer reactions than there are standings.
    for _ in range(machine.standings):
        leads = greatest_at(rises, leads)
    if greatest_at(rises, leads) != leads:
        return None
    return {standing: leads[standing] for standing in sorted(list(leads))}


def greatest_lead(machine, line, other):
    """The greatest lead of a line before another one; None if it is endless."""
    told = heights(machine, line, other)
    return None if told is None else max(list(told.values()))


def are_heights(machine, line, other, most, value):
    """Tells whether any value is heights, none above most."""
    check_two(machine, line, other)
    if not is_count(most):
        raise InvalidCount(most)
    if not isinstance(value, dict):
        return False
    # True is equal to 1, and must not stand for it.
    if not all([is_integer(standing) and is_integer(height) for standing, height in value.items()]):
        return False
    if sorted(list(value)) != machine.reached() or value[0] < 0:
        return False
    rises = rises_of(machine, line, other)
    steep = [goal for _, standing, goal, by in rises if value[goal] < value[standing] + by]
    return len(steep) == 0 and max(list(value.values())) <= most


def longer(rises, best):
    """For each standing the best tuple (lead, run) of one reaction more than the best ones."""
    more = {}
    for number, standing, goal, by in rises:
        if standing in best:
            lead, run = best[standing]
            if goal not in more or lead + by > more[goal][0]:
                more[goal] = (lead + by, run + [number])
    return more


def ring_from(rises, standing, most):
    """A run of at most so many reactions that leads back and makes the lead greater; None if there is none."""
    best = {standing: (0, [])}
    for _ in range(most):
        best = longer(rises, best)
        if standing in best and best[standing][0] > 0:
            return best[standing][1]
    return None


def ring(machine, line, other):
    """A rising ring; None if the lead is not endless."""
    check_two(machine, line, other)
    rises = rises_of(machine, line, other)
    for standing in machine.reached():
        run = ring_from(rises, standing, machine.standings)
        if run is not None:
            return (first_run_to(machine, [standing]), run)
    return None


def is_ring(machine, line, other, value):
    """Tells whether any value is a rising ring."""
    check_two(machine, line, other)
    if not is_tuple(value, 2) or not is_list(value[0]) or not is_list(value[1]):
        return False
    way, back = list(value[0]), list(value[1])
    try:
        if stands_at(machine, way) != stands_at(machine, way + back):
            return False
    except InvalidRun:
        return False
    return sum([rise(machine[number], line, other) for number in back]) > 0
