"""All runs of streams at once.

A STATE is a tuple (standing, spots): unlike runs that come to one go on alike. A MOVE is a
tuple (number, state, gives): what is done, where it leads, and what it gives. A GRAPH is a
dict from all states that runs come to, to the lists of their moves, by rising numbers. In
it each state stands ahead of those that its moves lead to, as each move takes a worth.
"""

from loosebeats.steps import can_take, spots_behind, steps_of


def moves_at(steps, queues, state):
    """The list of the moves of a state."""
    standing, spots = state
    return [
        (number, (goal, spots_behind(spots, takes)), gives)
        for number, takes, gives, goal in steps[standing]
        if can_take(takes, queues, spots)
    ]


def first_of(queues):
    """The state at which each run begins."""
    return (0, tuple([0 for _ in queues]))


def graph_of(machine, queues):
    """The graph of all runs of the queues."""
    steps = steps_of(machine)
    moves = {}
    waiting = [first_of(queues)]
    while len(waiting) > 0:
        state = waiting.pop()
        if state not in moves:
            moves[state] = moves_at(steps, queues, state)
            waiting.extend([move[1] for move in moves[state]])
    ordered = sorted(list(moves), key=lambda each: sum(each[1]))
    return {state: moves[state] for state in ordered}


def counts_of(graph):
    """For each state, how many ways go on from it until nothing can be done."""
    counts = {}
    for state in reversed(list(graph)):
        moves = graph[state]
        counts[state] = sum([counts[move[1]] for move in moves]) if len(moves) > 0 else 1
    return counts


def fewest_of(graph):
    """For each state, how many reactions are done at the fewest until nothing can be done."""
    fewest = {}
    for state in reversed(list(graph)):
        fewest[state] = min([fewest[move[1]] + 1 for move in graph[state]], default=0)
    return fewest


def most_of(graph):
    """For each state, how many reactions are done at the most until nothing can be done."""
    most = {}
    for state in reversed(list(graph)):
        most[state] = max([most[move[1]] + 1 for move in graph[state]], default=0)
    return most
