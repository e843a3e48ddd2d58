"""Which reactions have a line, and by which runs standings are come to."""

from loosebeats.ways import first_shortest


def has_line(reaction, line):
    """Tells whether a reaction takes or gives on the line."""
    _, takes, gives, _ = reaction
    return line in takes or line in gives


def reached_rows(machine):
    """The list of the tuples (number, reaction) of the reached reactions."""
    reached = machine.reached()
    return [(number, row) for number, row in enumerate(machine.reactions()) if row[0] in reached]


def first_run_to(machine, standings):
    """The first one of the shortest runs that lead to one of the standings; None if none does."""
    rows = reached_rows(machine)

    def moves_of(standing):
        return [(number, goal) for number, (here, _, _, goal) in rows if here == standing]

    return first_shortest(0, moves_of, lambda standing: standing in standings)
