"""Commands of a desk, read from strings."""

from loosebeats.errors import InvalidCommand
from loosebeats.words import number_below, worths_in

ALONE = ("finish", "undo", "can", "standing")


def told_by(machine, words):
    """What the words behind the first one tell; None if the words are no command."""
    word, *rest = words
    if word in ALONE:
        return [] if len(rest) == 0 else None
    if word == "do" and len(rest) == 1:
        return number_below(rest[0], len(machine))
    if word == "line" and len(rest) == 1:
        return rest[0] if rest[0] in machine.ins + machine.outs else None
    if word == "come" and len(rest) > 1 and rest[0] in machine.ins:
        worths = worths_in(rest[1:])
        return None if worths is None else {rest[0]: worths}
    return None


def read_command(machine, command):
    """A tuple (word, what it is told) of any command; raises InvalidCommand if it is none.

    The second part is a number, a line, streams, or an empty list for a word that stands alone.
    """
    if not isinstance(command, str):
        raise InvalidCommand(command)
    words = command.split(" ")
    told = told_by(machine, words)
    if told is None:
        raise InvalidCommand(command)
    return (words[0], told)
