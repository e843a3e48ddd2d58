"""All standings and contents that a pair comes to, whatever the streams are.

A NODE is a tuple (standing, standing, contents). What in-lines bring does not matter for
it: streams can be found for whatever is done.
"""

from loosebeats.beats import have_room, sides_of
from loosebeats.errors import TooMany
from loosebeats.kinds import are_rows, is_below, is_list, is_tuple

MOST_NODES = 2000


def can_draw(draws, contents):
    """Tells whether each worth of the draws is the first one of its store."""
    return all([len(contents[at]) > 0 and contents[at][0] == worth for at, worth in draws])


def contents_behind(contents, draws, puts):
    """The contents when the draws are taken and the puts are given."""
    gone = dict(draws)
    come = dict(puts)
    return tuple([
        (content[1:] if at in gone else content) + ((come[at],) if at in come else ())
        for at, content in enumerate(contents)
    ])


def held_in(contents):
    """How much stands in each store."""
    return [len(content) for content in contents]


def node_behind(node, which, step):
    """The node to which a step of the first or of the second machine leads."""
    one, other, contents = node
    _, _, draws, puts, _, goal = step
    later = contents_behind(contents, draws, puts)
    return (goal, other, later) if which == 0 else (one, goal, later)


class Contents:
    """What a pair comes to with sizes that are numbers."""

    def __init__(self, pair, sizes):
        self._pair = pair
        self._sizes = sizes
        self._sides = sides_of(pair)

    def begin(self):
        """The node at which each run begins."""
        return (0, 0, tuple([() for _ in self._pair.stores]))

    def able(self, node):
        """The list of tuples (0 or 1, step) of what can be done there by some streams."""
        one, other, contents = node
        held = held_in(contents)
        ones = [(0, step) for step in self._sides[0][one] if have_room(step[3], held, self._sizes)]
        return ones + [(1, step) for step in self._sides[1][other] if can_draw(step[2], contents)]

    def stall(self, node):
        """A step of the first machine that lacks room, while by just what it takes nothing can be done;
        None if there is none."""
        able = self.able(node)
        held = held_in(node[2])
        for step in self._sides[0][node[0]]:
            if have_room(step[3], held, self._sizes):
                continue
            if not any([all([pair in step[1] for pair in more[1]]) for _, more in able]):
                return step
        return None

    def ways(self):
        """For each node that is come to, None or a tuple (node ahead, 0 or 1, step), by the shortest ways."""
        found = {self.begin(): None}
        level = [self.begin()]
        while len(level) > 0:
            more = []
            for node in level:
                for which, step in self.able(node):
                    later = node_behind(node, which, step)
                    if later not in found:
                        found[later] = (node, which, step)
                        more.append(later)
                if len(found) > MOST_NODES:
                    raise TooMany("contents", MOST_NODES)
            level = more
        return found

    def is_enough(self):
        """Tells whether there is no standstill."""
        return all([self.stall(node) is None for node in self.ways()])

    def streams_of(self, steps):
        """The streams that steps take one behind another."""
        streams = {line: [] for line in self._pair.ins}
        ins = self._pair.ins
        for step in steps:
            for at, worth in step[1]:
                streams[ins[at]].append(worth)
        return {line: worths for line, worths in streams.items() if len(worths) > 0}

    def standstill(self):
        """A standstill; None if there is none."""
        ways = self.ways()
        for node in ways:
            step = self.stall(node)
            if step is not None:
                rows = rows_to(ways, node)
                streams = self.streams_of([row[1] for row in rows] + [step])
                return (streams, [(which, done[0]) for which, done in rows])
        return None

    def cover(self):
        """The sorted list of all nodes that are come to; None if there is a standstill."""
        ways = self.ways()
        stalls = [node for node in ways if self.stall(node) is not None]
        return sorted(list(ways)) if len(stalls) == 0 else None

    def is_node(self, value):
        """Tells whether any value is standings and contents that the sizes let."""
        if not is_tuple(value, 3):
            return False
        one, other, contents = value
        if not is_below(one, self._pair.first.standings) or not is_below(other, self._pair.second.standings):
            return False
        if not are_rows(contents, len(self._sizes)):
            return False
        return all([len(content) <= size for content, size in zip(contents, self._sizes)])

    def is_cover(self, value):
        """Tells whether any value is a list of nodes which shows that the sizes are enough."""
        if not is_list(value) or not all([self.is_node(node) for node in value]):
            return False
        nodes = {node: True for node in value}
        if len(nodes) < len(value) or self.begin() not in nodes:
            return False
        for node in value:
            if self.stall(node) is not None:
                return False
            if not all([node_behind(node, which, step) in nodes for which, step in self.able(node)]):
                return False
        return True


def rows_to(ways, node):
    """The list of the tuples (0 or 1, step) of the way to a node."""
    rows = []
    before = ways[node]
    while before is not None:
        ahead, which, step = before
        rows.append((which, step))
        before = ways[ahead]
    return rows[::-1]
