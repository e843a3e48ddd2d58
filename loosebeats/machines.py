"""Machines of one beat: their lines, standings and reactions."""

from loosebeats.checks import check_number, check_standing
from loosebeats.errors import (
    InvalidIns,
    InvalidNames,
    InvalidOuts,
    InvalidReaction,
    InvalidReactions,
    InvalidStandings,
    NotAgreeing,
    SharedLine,
    TooMany,
)
from loosebeats.kinds import are_worths, is_below, is_integer, is_line, is_list, is_name, is_tuple

MOST_INS = 4
MOST_OUTS = 3


def wrong_name(names, barred):
    """The place of the first one that is no NAME, stands ahead or is barred; None if none is."""
    for place, name in enumerate(names):
        if not is_name(name) or name in names[:place] or name in barred:
            return place
    return None


def check_ins(ins):
    """Raises the error of wrong in-lines."""
    if not is_list(ins) or len(ins) == 0:
        raise InvalidIns(None)
    place = wrong_name(ins, [])
    if place is not None:
        raise InvalidIns(place)
    if len(ins) > MOST_INS:
        raise TooMany("ins", MOST_INS)


def check_outs(ins, outs):
    """Raises the error of out-lines that are wrong beside these in-lines."""
    if not is_list(outs):
        raise InvalidOuts(None)
    place = wrong_name(outs, ins)
    if place is not None:
        raise InvalidOuts(place)
    if len(outs) > MOST_OUTS:
        raise TooMany("outs", MOST_OUTS)


def paired(worths, lines):
    """Takes or gives as a tuple of pairs, in the sequence of the lines."""
    return tuple([(line, worths[line]) for line in lines if line in worths])


def packed(value, ins, outs, standings):
    """A reaction with pairs in place of dicts; None if the value is no reaction of these."""
    # Equal reactions are packed alike, however the keys of their dicts are ordered.
    if not is_tuple(value, 4):
        return None
    standing, takes, gives, goal = value
    if not is_below(standing, standings) or not is_below(goal, standings):
        return None
    if not are_worths(takes, ins) or len(takes) == 0 or not are_worths(gives, outs):
        return None
    return (standing, paired(takes, ins), paired(gives, outs), goal)


def packed_all(reactions, ins, outs, standings, limit):
    """All reactions, packed; raises the error of wrong ones."""
    if not is_list(reactions):
        raise InvalidReactions(None)
    rows = []
    for place, reaction in enumerate(reactions):
        row = packed(reaction, ins, outs, standings)
        if row is None or row in rows:
            raise InvalidReactions(place)
        rows.append(row)
    if len(rows) > limit:
        raise TooMany("reactions", limit)
    return tuple(rows)


def are_names(value, lines):
    """Tells whether a value gives some of the lines other names, so that all are unlike."""
    if not isinstance(value, dict):
        return False
    if not all([is_line(line, lines) and is_name(name) for line, name in value.items()]):
        return False
    return len({value.get(line, line) for line in lines}) == len(lines)


class Machine:
    """A machine of one beat; it never changes."""

    MOST_STANDINGS = 12
    MOST_REACTIONS = 40

    def __init__(self, ins, outs, standings, reactions):
        check_ins(ins)
        check_outs(ins, outs)
        if not is_integer(standings) or standings < 1 or standings > Machine.MOST_STANDINGS:
            raise InvalidStandings(standings)
        self._ins = tuple(ins)
        self._outs = tuple(outs)
        self._standings = standings
        self._rows = packed_all(reactions, self._ins, self._outs, standings, Machine.MOST_REACTIONS)

    @property
    def ins(self):
        """The list of the in-lines."""
        return list(self._ins)

    @property
    def outs(self):
        """The list of the out-lines."""
        return list(self._outs)

    @property
    def standings(self):
        """How many standings there are."""
        return self._standings

    def reactions(self):
        """The list of the reactions."""
        return [(standing, dict(takes), dict(gives), goal) for standing, takes, gives, goal in self._rows]

    def at(self, standing):
        """The list of the numbers of the reactions of a standing, rising."""
        check_standing(self, standing)
        return [number for number, row in enumerate(self._rows) if row[0] == standing]

    def reached(self):
        """The sorted list of the reached standings."""
        known = {0: True}
        waiting = [0]
        while len(waiting) > 0:
            standing = waiting.pop()
            for row in self._rows:
                if row[0] == standing and row[3] not in known:
                    known[row[3]] = True
                    waiting.append(row[3])
        return sorted(list(known))

    def renamed(self, names):
        """The Machine with other names of lines."""
        if not are_names(names, self.ins + self.outs):
            raise InvalidNames(names)
        ins = [names.get(line, line) for line in self._ins]
        outs = [names.get(line, line) for line in self._outs]
        rows = []
        for standing, takes, gives, goal in self._rows:
            takes_so = {names.get(line, line): worth for line, worth in takes}
            gives_so = {names.get(line, line): worth for line, worth in gives}
            rows.append((standing, takes_so, gives_so, goal))
        return Machine(ins, outs, self._standings, rows)

    def __getitem__(self, at):
        check_number(self, at)
        standing, takes, gives, goal = self._rows[at]
        return (standing, dict(takes), dict(gives), goal)

    def __iter__(self):
        raise TypeError("a Machine is not iterated over: reactions() is the list")

    def __len__(self):
        return len(self._rows)

    def __contains__(self, x):
        row = packed(x, self._ins, self._outs, self._standings)
        return row is not None and row in self._rows

    def __eq__(self, other):
        return (
            isinstance(other, Machine)
            and self._ins == other._ins
            and self._outs == other._outs
            and self._standings == other._standings
            and self._rows == other._rows
        )

    def __repr__(self):
        return f"Machine({self.ins!r}, {self.outs!r}, {self._standings!r}, {self.reactions()!r})"

    def __add__(self, other):
        row = packed(other, self._ins, self._outs, self._standings)
        if row is None or row in self._rows:
            raise InvalidReaction(other)
        return Machine(self._ins, self._outs, self._standings, self.reactions() + [other])

    def __sub__(self, other):
        check_number(self, other)
        rows = self.reactions()
        return Machine(self._ins, self._outs, self._standings, rows[:other] + rows[other + 1:])

    def __or__(self, other):
        check_beside(self, other)
        many = other.standings
        ones = [
            (standing * many + still, takes, gives, goal * many + still)
            for standing, takes, gives, goal in self.reactions()
            for still in range(many)
        ]
        others = [
            (still * many + standing, takes, gives, still * many + goal)
            for standing, takes, gives, goal in other.reactions()
            for still in range(self._standings)
        ]
        return Machine(self.ins + other.ins, self.outs + other.outs, self._standings * many, ones + others)


def check_beside(one, other):
    """Raises the error of two machines that cannot be beside each other."""
    barred = other.ins + other.outs
    for line in one.ins + one.outs:
        if line in barred:
            raise SharedLine(line)
    if len(one.ins) + len(other.ins) > MOST_INS:
        raise TooMany("ins", MOST_INS)
    if len(one.outs) + len(other.outs) > MOST_OUTS:
        raise TooMany("outs", MOST_OUTS)
    if one.standings * other.standings > Machine.MOST_STANDINGS:
        raise TooMany("standings", Machine.MOST_STANDINGS)
    if len(one) * other.standings + len(other) * one.standings > Machine.MOST_REACTIONS:
        raise TooMany("reactions", Machine.MOST_REACTIONS)


def do_agree(machine, one, other):
    """Tells whether two reactions, by their numbers, agree."""
    standing, takes, _, _ = machine[one]
    standing_too, takes_too, _, _ = machine[other]
    if one == other or standing != standing_too:
        return False
    return all([takes_too.get(line, worth) == worth for line, worth in takes.items()])


def check_agreeing(machine, one, other):
    """Raises NotAgreeing unless two reactions, by their numbers, agree."""
    if not do_agree(machine, one, other):
        raise NotAgreeing(one, other)


def heads(machine, one, other):
    """The dict from the in-lines that one of two agreeing reactions takes to these worths."""
    check_agreeing(machine, one, other)
    both = {**machine[one][1], **machine[other][1]}
    return {line: both[line] for line in machine.ins if line in both}
