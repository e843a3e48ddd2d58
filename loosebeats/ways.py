"""The first one of the shortest runs to a goal.

States are whatever the caller makes of them: an integer, or a tuple of such.
"""


def first_shortest(begin, moves_of, is_goal):
    """The first one of the shortest runs from a state to a goal; None if there is none.

    moves_of tells the list of tuples (number, state) of a state, by rising numbers.
    """
    runs = {begin: []}
    level = [begin]
    while len(level) > 0:
        # Within a level the runs are in order, so the first goal in it has the first run.
        for state in level:
            if is_goal(state):
                return runs[state]
        more = []
        for state in level:
            for number, later in moves_of(state):
                if later not in runs:
                    runs[later] = runs[state] + [number]
                    more.append(later)
        level = more
    return None
