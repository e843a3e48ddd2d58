"""All full runs of a pair by told streams.

A STATE is a tuple (standing, standing, contents, spots): unlike runs that come to one go on
alike. What one machine does neither hinders what the other one could do, nor changes what
comes of it; so where no step of one machine waits for the other one, only its steps are
looked at, and of the second machine only one that lasts, if there is one: all ENDs are come
to all the same, with far fewer states.
"""

from loosebeats.beats import have_room, sides_of
from loosebeats.contents import can_draw, contents_behind, held_in
from loosebeats.errors import TooMany
from loosebeats.forks import flows_ahead
from loosebeats.lasting import lasting
from loosebeats.runs import MOST_ENDS
from loosebeats.steps import can_take, queues_of, spots_behind


def could_draw(draws, contents):
    """Tells whether no store has another worth first than the draws ask for; it may be empty."""
    return all([len(contents[at]) == 0 or contents[at][0] == worth for at, worth in draws])


def state_behind(state, which, step):
    """The state to which a step of the first or of the second machine leads."""
    one, other, contents, spots = state
    _, takes, draws, puts, _, goal = step
    one, other = (goal, other) if which == 0 else (one, goal)
    return (one, other, contents_behind(contents, draws, puts), spots_behind(spots, takes))


class Search:
    """All full runs of streams with some sizes; it keeps what it has found."""

    def __init__(self, pair, streams, sizes):
        self._sides = sides_of(pair)
        self._sizes = sizes
        self._queues = queues_of(pair, streams)
        self._flows = tuple([() for _ in pair.outs])
        self._contents = tuple([() for _ in pair.stores])
        self._ends = {}
        self._lasting = lasting(self._sides[1])

    def begin(self):
        """The state at which each run begins."""
        return (0, 0, self._contents, tuple([0 for _ in self._queues]))

    def first_able(self, state):
        """The list of the steps of the first machine that can be done, and whether others lack room."""
        standing, _, contents, spots = state
        steps = [step for step in self._sides[0][standing] if can_take(step[1], self._queues, spots)]
        held = held_in(contents)
        able = [step for step in steps if have_room(step[3], held, self._sizes)]
        return (able, len(able) < len(steps))

    def second_able(self, state):
        """The list of the steps of the second machine that can be done, and whether others wait for stores."""
        _, standing, contents, spots = state
        steps = [step for step in self._sides[1][standing] if can_take(step[1], self._queues, spots)]
        able = [step for step in steps if can_draw(step[2], contents)]
        return (able, len(able) < len([step for step in steps if could_draw(step[2], contents)]))

    def moves_at(self, state):
        """The list of tuples (0 or 1, step) that are looked at."""
        ones, lack = self.first_able(state)
        others, wait = self.second_able(state)
        moves = [(0, step) for step in ones]
        moves_too = [(1, step) for step in others]
        # The second machine goes first, so that little stands in the stores.
        for move in moves_too:
            if move[1][0] in self._lasting:
                return [move]
        if len(moves_too) > 0 and not wait:
            return moves_too
        if len(moves) > 0 and not lack:
            return moves
        return moves + moves_too

    def ends_from(self, state):
        """All ENDs from a state on, with spots in place of rests, as keys; flows being empty there."""
        if state not in self._ends:
            self._ends[state] = self.search(state)
        return self._ends[state]

    def search(self, state):
        """What ends_from tells, looked for."""
        moves = self.moves_at(state)
        if len(moves) == 0:
            return {state + (self._flows,): True}
        found = {}
        for which, step in moves:
            told = self.ends_from(state_behind(state, which, step))
            for one, other, contents, spots, flows in told:
                found[(one, other, contents, spots, flows_ahead(step[4], flows))] = True
            # Unlike ends stay unlike when the same is given ahead of them.
            if len(found) > MOST_ENDS:
                raise TooMany("ends", MOST_ENDS)
        return found

    def pair_ends(self):
        """The sorted list of the ENDs of all full runs."""
        told = self.ends_from(self.begin())
        return sorted([
            (one, other, contents, tuple([tuple(queue[spot:]) for queue, spot in zip(self._queues, spots)]), flows)
            for one, other, contents, spots, flows in told
        ])

    def is_enough(self):
        """Tells whether at no end of a full run a reaction of the first machine lacks room."""
        known = {self.begin(): True}
        waiting = [self.begin()]
        while len(waiting) > 0:
            state = waiting.pop()
            moves = self.moves_at(state)
            if len(moves) == 0 and self.first_able(state)[1]:
                return False
            for which, step in moves:
                later = state_behind(state, which, step)
                if later not in known:
                    known[later] = True
                    waiting.append(later)
        return True
