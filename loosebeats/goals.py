"""The first run that leads to one state of a graph with told flows.

A PART of the flows is how many worths of each were given so far: spots of the flows. It
is written as one number, and many parts are the bits of one: so a single shift does for
all of them what a move does. There may be too many to be looked at one by one.
"""

from loosebeats.graphs import first_of
from loosebeats.steps import can_take, spots_behind


def strides_of(flows):
    """For each flow, by how much one more worth of it makes the number of a part greater."""
    strides = []
    stride = 1
    for flow in flows:
        strides.append(stride)
        stride = stride * (len(flow) + 1)
    return strides


def part_of(strides, spots):
    """The number of the part at these spots of the flows."""
    return sum([spot * stride for spot, stride in zip(spots, strides)])


def spots_of_parts(flows, strides, whole):
    """For each part, up to the whole of the flows, its spots."""
    sizes = [len(flow) + 1 for flow in flows]
    return [
        [int(part // stride) % size for stride, size in zip(strides, sizes)]
        for part in range(whole + 1)
    ]


def parts_ahead(graph, flows, strides, whole):
    """For all gives of the graph, the parts behind which just these may come, as bits."""
    spots_of = spots_of_parts(flows, strides, whole)
    ahead = {}
    for moves in graph.values():
        for _, _, gives in moves:
            if gives not in ahead:
                ahead[gives] = sum([1 << part for part, spots in enumerate(spots_of) if can_take(gives, flows, spots)])
    return ahead


def parts_to(graph, goal, flows):
    """For each state the parts, as bits, behind which the goal is come to with just the rest."""
    strides = strides_of(flows)
    whole = part_of(strides, [len(flow) for flow in flows])
    ahead = parts_ahead(graph, flows, strides, whole)
    parts = {}
    for state in reversed(list(graph)):
        bits = 1 << whole if state == goal else 0
        for _, later, gives in graph[state]:
            shift = sum([strides[at] for at, _ in gives])
            bits = bits | ((parts[later] >> shift) & ahead[gives])
        parts[state] = bits
    return parts


def is_part(bits, strides, spots):
    """Tells whether the part at these spots is among the parts."""
    return (bits >> part_of(strides, spots)) & 1 == 1


def move_to(moves, parts, flows, spots):
    """The first one of the moves behind which the goal can still be come to."""
    strides = strides_of(flows)
    for move in moves:
        _, later, gives = move
        if can_take(gives, flows, spots) and is_part(parts[later], strides, spots_behind(spots, gives)):
            return move
    return None


def run_in(graph, queues, goal, flows):
    """The first run that leads to the goal and gives just the flows; None if there is none."""
    parts = parts_to(graph, goal, flows)
    state = first_of(queues)
    spots = tuple([0 for _ in flows])
    if not is_part(parts[state], strides_of(flows), spots):
        return None
    run = []
    while state != goal:
        number, later, gives = move_to(graph[state], parts, flows, spots)
        run.append(number)
        state = later
        spots = spots_behind(spots, gives)
    return run
