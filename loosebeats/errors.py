"""The errors of the package.

Each one keeps what its constructor is passed: an attribute `position` is a place in a
list, from 0, or None.
"""


class BeatError(ValueError):
    """A value that was passed is not of the kind that is asked for."""


class InvalidIns(BeatError):
    """The in-lines are no list of names, or the one at this position is wrong."""

    def __init__(self, position):
        self.position = position


class InvalidOuts(BeatError):
    """The out-lines are no list of names, or the one at this position is wrong."""

    def __init__(self, position):
        self.position = position


class InvalidStandings(BeatError):
    """A number of standings that a machine cannot have."""

    def __init__(self, value):
        self.value = value


class InvalidReactions(BeatError):
    """The reactions are no list of them, or the one at this position is wrong."""

    def __init__(self, position):
        self.position = position


class InvalidReaction(BeatError):
    """No reaction that can be put behind those of the machine."""

    def __init__(self, value):
        self.value = value


class InvalidNames(BeatError):
    """No dict that gives lines of the machine other names."""

    def __init__(self, value):
        self.value = value


class InvalidNumber(BeatError):
    """No number of a reaction of the machine."""

    def __init__(self, value):
        self.value = value


class InvalidStanding(BeatError):
    """No standing of the machine."""

    def __init__(self, value):
        self.value = value


class InvalidStreams(BeatError):
    """No streams of the machine."""

    def __init__(self, value):
        self.value = value


class InvalidRun(BeatError):
    """No list, or the reaction at this position cannot be done there."""

    def __init__(self, position):
        self.position = position


class InvalidArrivals(BeatError):
    """No list, or what comes at this position is no worth on an in-line."""

    def __init__(self, position):
        self.position = position


class InvalidRule(BeatError):
    """No list that has each number of a reaction once."""

    def __init__(self, value):
        self.value = value


class InvalidLine(BeatError):
    """No line of the machine."""

    def __init__(self, value):
        self.value = value


class InvalidLines(BeatError):
    """No list, or the line at this position is no in-line, or stands ahead."""

    def __init__(self, position):
        self.position = position


class InvalidFlows(BeatError):
    """No flows of the machine."""

    def __init__(self, value):
        self.value = value


class InvalidSizes(BeatError):
    """No sizes of the pair."""

    def __init__(self, value):
        self.value = value


class InvalidRooms(BeatError):
    """No dict that gives out-lines of the machine rooms."""

    def __init__(self, value):
        self.value = value


class InvalidCount(BeatError):
    """No number that is at least 0."""

    def __init__(self, value):
        self.value = value


class InvalidCounts(BeatError):
    """No dict from in-lines to numbers that are at least 0."""

    def __init__(self, value):
        self.value = value


class InvalidText(BeatError):
    """No text of what is asked for; this is its first wrong line, from 1."""

    def __init__(self, line):
        self.line = line


class InvalidClaim(BeatError):
    """No claim."""

    def __init__(self, value):
        self.value = value


class InvalidCommand(BeatError):
    """No command of a desk."""

    def __init__(self, value):
        self.value = value


class MissingError(LookupError):
    """What is asked for is not there."""


class NoSuch(MissingError):
    """There is none at this place."""

    def __init__(self, value):
        self.value = value


class StateError(RuntimeError):
    """What is asked for does not fit the machines that it is asked of."""


class SharedLine(StateError):
    """Two machines have this line in common, and must not."""

    def __init__(self, value):
        self.value = value


class OtherLines(StateError):
    """Two machines have other lines, or in another sequence."""

    def __init__(self, one, other):
        self.one = one
        self.other = other


class NotAgreeing(StateError):
    """Two reactions, by their numbers, do not agree."""

    def __init__(self, one, other):
        self.one = one
        self.other = other


class NotReached(StateError):
    """No run comes to this standing."""

    def __init__(self, value):
        self.value = value


class NotAlike(StateError):
    """A machine is not alike: 0 is the first one, 1 the second."""

    def __init__(self, which):
        self.which = which


class NotSmooth(StateError):
    """The machine is not smooth."""

    def __init__(self):
        pass


class Noticed(StateError):
    """The reaction of this number takes or gives the notice already."""

    def __init__(self, value):
        self.value = value


class NoStore(StateError):
    """No out-line of the first machine is an in-line of the second."""

    def __init__(self):
        pass


class CannotBeDone(StateError):
    """The reaction of this number cannot be done now."""

    def __init__(self, value):
        self.value = value


class NothingToUndo(StateError):
    """There is no change to take back."""

    def __init__(self):
        pass


class CommandFailed(StateError):
    """The command at this position failed."""

    def __init__(self, position):
        self.position = position


class LimitError(ArithmeticError):
    """Something is more than the package deals with."""


class TooMany(LimitError):
    """There are more of these than the limit."""

    def __init__(self, what, limit):
        self.what = what
        self.limit = limit
