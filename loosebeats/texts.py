"""Machines and streams as texts, and texts read back."""

from loosebeats.checks import check_streams
from loosebeats.errors import InvalidText
from loosebeats.machines import MOST_INS, MOST_OUTS, Machine, wrong_name
from loosebeats.words import number_below, placed_in, worths_in


def joined_words(words):
    """The line of a text with these words."""
    return " ".join(words) + "\n"


def words_of(worths):
    """The words for takes or gives."""
    return [f"{line}={worth}" for line, worth in worths.items()]


def line_of(reaction):
    """The line for a reaction."""
    standing, takes, gives, goal = reaction
    return joined_words([str(standing), *words_of(takes), ">", *words_of(gives), ">", str(goal)])


def text_of(machine):
    """The text of the machine."""
    head = [["machine", str(machine.standings)], ["in", *machine.ins], ["out", *machine.outs]]
    rows = [joined_words(words) for words in head] + [line_of(reaction) for reaction in machine.reactions()]
    return "".join(rows)


def bytes_of(machine):
    """The text of the machine as bytes."""
    return text_of(machine).encode("ascii")


def text_of_streams(machine, streams):
    """The text of streams of the machine."""
    check_streams(machine, streams)
    rows = [[line, *[str(worth) for worth in streams.get(line, [])]] for line in machine.ins]
    return "".join([joined_words(words) for words in rows if len(words) > 1])


def rows_of(text):
    """The list of the lines of a text, and behind them what stands behind the last line feed."""
    if not isinstance(text, str):
        raise InvalidText(1)
    return text.split("\n")


def standings_in(row):
    """How many standings a first line tells; None if it is wrong."""
    word, _, number = row.partition(" ")
    standings = number_below(number, Machine.MOST_STANDINGS + 1)
    return standings if word == "machine" and standings != 0 else None


def names_in(row, word, barred, fewest, most):
    """The list of the names behind a word; None if the line is wrong."""
    first, *names = row.split(" ")
    if first != word or len(names) < fewest or len(names) > most:
        return None
    return names if wrong_name(names, barred) is None else None


def reaction_in(row, standings, ins, outs):
    """The reaction that a line tells; None if it is wrong."""
    words = row.split(" ")
    if words.count(">") != 2 or words[-2] != ">":
        return None
    middle = words.index(">")
    takes = placed_in(words[1:middle], ins)
    gives = placed_in(words[middle + 1:-2], outs)
    standing = number_below(words[0], standings)
    goal = number_below(words[-1], standings)
    if standing is None or goal is None or takes is None or gives is None or len(takes) == 0:
        return None
    return (standing, takes, gives, goal)


def head_in(rows):
    """A tuple (standings, in-lines, out-lines) that the first lines tell; raises InvalidText if one is wrong."""
    # What stands behind the last line feed is no line: it is wrong, or a line lacks there.
    ended = rows[:-1]
    standings = standings_in(ended[0]) if len(ended) > 0 else None
    if standings is None:
        raise InvalidText(1)
    ins = names_in(ended[1], "in", [], 1, MOST_INS) if len(ended) > 1 else None
    if ins is None:
        raise InvalidText(2)
    outs = names_in(ended[2], "out", ins, 0, MOST_OUTS) if len(ended) > 2 else None
    if outs is None:
        raise InvalidText(3)
    return (standings, ins, outs)


def read_machine(text):
    """The Machine with just this text."""
    rows = rows_of(text)
    standings, ins, outs = head_in(rows)
    reactions = []
    for place, row in enumerate(rows[3:-1]):
        reaction = reaction_in(row, standings, ins, outs)
        if reaction is None or reaction in reactions or place >= Machine.MOST_REACTIONS:
            raise InvalidText(place + 4)
        reactions.append(reaction)
    if rows[-1] != "":
        raise InvalidText(len(rows))
    return Machine(ins, outs, standings, reactions)


def stream_in(row, lines):
    """A tuple (line, worths) that a line of a text tells of one of the lines; None if it is wrong."""
    line, *words = row.split(" ")
    worths = worths_in(words)
    if line not in lines or worths is None or len(worths) == 0:
        return None
    return (line, worths)


def read_streams(machine, text):
    """The streams of the machine with just this text."""
    rows = rows_of(text)
    left = machine.ins
    streams = {}
    for place, row in enumerate(rows[:-1]):
        told = stream_in(row, left)
        if told is None:
            raise InvalidText(place + 1)
        line, worths = told
        streams[line] = worths
        # The lines stand in sequence, each once.
        left = left[left.index(line) + 1:]
    if rows[-1] != "":
        raise InvalidText(len(rows))
    return streams
