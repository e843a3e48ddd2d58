"""Streams and runs: what can be done by streams, and how all full runs of them end."""

from loosebeats.checks import check_standing, check_streams, is_end
from loosebeats.errors import InvalidArrivals, InvalidCount, InvalidRule, NoSuch, TooMany
from loosebeats.goals import run_in
from loosebeats.graphs import counts_of, fewest_of, first_of, graph_of, most_of
from loosebeats.kinds import are_integers, is_count, is_line, is_list, is_tuple, is_worth
from loosebeats.steps import (
    can_take,
    end_at,
    first_place,
    first_step,
    flows_behind,
    full_way,
    no_flows,
    no_spots,
    place_behind,
    place_of_run,
    queues_of,
    steps_of,
    way_of_run,
)

MOST_WORTHS = 16
MOST_ENDS = 200


def can_be_done(machine, standing, streams):
    """The list of the numbers of the reactions that can be done at a standing by streams."""
    check_standing(machine, standing)
    check_streams(machine, streams)
    queues = queues_of(machine, streams)
    spots = no_spots(machine)
    return [step[0] for step in steps_of(machine)[standing] if can_take(step[1], queues, spots)]


def run_end(machine, streams, run):
    """The END of a run of the streams."""
    check_streams(machine, streams)
    queues = queues_of(machine, streams)
    return end_at(queues, place_of_run(machine, queues, run))


def is_full(machine, streams, run):
    """Tells whether no reaction can be done at the end of a run of the streams."""
    check_streams(machine, streams)
    queues = queues_of(machine, streams)
    standing, spots, _ = place_of_run(machine, queues, run)
    return first_step(steps_of(machine)[standing], queues, spots) is None


def taken(machine, run):
    """The streams that a run that leads on takes."""
    ins = machine.ins
    streams = {line: [] for line in ins}
    for _, takes, _, _ in way_of_run(machine, run):
        for at, worth in takes:
            streams[ins[at]].append(worth)
    return {line: streams[line] for line in ins if len(streams[line]) > 0}


def stands_at(machine, run):
    """The standing to which a run leads."""
    standing = 0
    for step in way_of_run(machine, run):
        standing = step[3]
    return standing


def few_queues(machine, streams):
    """The queues of streams all of whose runs are to be looked at."""
    check_streams(machine, streams)
    queues = queues_of(machine, streams)
    if sum([len(queue) for queue in queues]) > MOST_WORTHS:
        raise TooMany("worths", MOST_WORTHS)
    return queues


def many_full(machine, streams):
    """How many full runs there are."""
    queues = few_queues(machine, streams)
    return counts_of(graph_of(machine, queues))[first_of(queues)]


def full_at(machine, streams, place):
    """The full run at this place of all, sorted."""
    queues = few_queues(machine, streams)
    if not is_count(place):
        raise InvalidCount(place)
    graph = graph_of(machine, queues)
    counts = counts_of(graph)
    state = first_of(queues)
    if place >= counts[state]:
        raise NoSuch(place)
    left = place
    run = []
    # No full run goes on in another one, so they are sorted as their first unlike numbers are.
    while len(graph[state]) > 0:
        for number, later, _ in graph[state]:
            if left < counts[later]:
                break
            left = left - counts[later]
        run.append(number)
        state = later
    return run


def fewest(machine, streams):
    """How many reactions a full run has at the fewest."""
    queues = few_queues(machine, streams)
    return fewest_of(graph_of(machine, queues))[first_of(queues)]


def most(machine, streams):
    """How many reactions a full run has at the most."""
    queues = few_queues(machine, streams)
    return most_of(graph_of(machine, queues))[first_of(queues)]


def shortest(machine, streams):
    """The first one of the full runs with the fewest reactions."""
    queues = few_queues(machine, streams)
    graph = graph_of(machine, queues)
    left = fewest_of(graph)
    state = first_of(queues)
    run = []
    while len(graph[state]) > 0:
        steps = [move for move in graph[state] if left[move[1]] + 1 == left[state]]
        number, state, _ = steps[0]
        run.append(number)
    return run


def ends(machine, streams):
    """The sorted list of the ENDs of all full runs."""
    queues = few_queues(machine, streams)
    graph = graph_of(machine, queues)
    given = {state: {} for state in graph}
    given[first_of(queues)] = {no_flows(machine): True}
    found = []
    for state in graph:
        # Unlike flows stay unlike when the same is given behind them, so no state that
        # has more of them than there may be ends needs to be gone on from.
        if len(given[state]) > MOST_ENDS:
            raise TooMany("ends", MOST_ENDS)
        for _, later, gives in graph[state]:
            for flows in list(given[state]):
                given[later][flows_behind(flows, gives)] = True
        if len(graph[state]) == 0:
            found.extend([end_at(queues, (state[0], state[1], told)) for told in given[state]])
    if len(found) > MOST_ENDS:
        raise TooMany("ends", MOST_ENDS)
    return sorted(found)


def run_to(machine, streams, end):
    """The first full run that ends so; None for any value that is no END of one."""
    queues = few_queues(machine, streams)
    if not is_end(machine, end):
        return None
    standing, rests, flows = end
    spots = tuple([len(queue) - len(rest) for queue, rest in zip(queues, rests)])
    goal = (standing, spots)
    graph = graph_of(machine, queues)
    if goal not in graph or len(graph[goal]) > 0 or end_at(queues, (standing, spots, flows)) != end:
        return None
    # Each reaction takes a worth and gives at most one on a line.
    if max([len(flow) for flow in flows], default=0) > sum(spots):
        return None
    return run_in(graph, queues, goal, flows)


def check_arrivals(machine, arrivals):
    """Raises InvalidArrivals unless they are arrivals on the in-lines."""
    if not is_list(arrivals):
        raise InvalidArrivals(None)
    ins = machine.ins
    for position, arrival in enumerate(arrivals):
        if not is_tuple(arrival, 2):
            raise InvalidArrivals(position)
        if not is_line(arrival[0], ins) or not is_worth(arrival[1]):
            raise InvalidArrivals(position)


def check_rule(machine, rule):
    """Raises InvalidRule unless it has each number of a reaction once."""
    if not is_list(rule) or not are_integers(rule):
        raise InvalidRule(rule)
    if sorted(rule) != list(range(len(machine))):
        raise InvalidRule(rule)


def eager(machine, arrivals, rule):
    """The END of the eager run of arrivals by a rule."""
    check_arrivals(machine, arrivals)
    check_rule(machine, rule)
    ins = machine.ins
    ruled = [sorted(steps, key=lambda each: rule.index(each[0])) for steps in steps_of(machine)]
    queues = [[] for _ in ins]
    place = first_place(machine)
    for line, worth in arrivals:
        queues[ins.index(line)].append(worth)
        place = place_behind(place, full_way(ruled, queues, place))
    return end_at(queues, place)
