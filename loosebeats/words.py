"""Words of texts and commands: numbers, and worths on lines."""

from loosebeats.kinds import MOST_WORTH


def number_below(word, limit):
    """The number less than the limit that a word tells, without needless zeros; None if it tells none."""
    # The limits are small; so no word of any length is ever read as a number.
    for number in range(limit):
        if str(number) == word:
            return number
    return None


def worth_in(word):
    """The worth that a word tells; None if it tells none."""
    return number_below(word, MOST_WORTH + 1)


def worths_in(words):
    """The list of the worths that words tell; None if one of them tells none."""
    worths = [worth_in(word) for word in words]
    return None if None in worths else worths


def placed_in(words, lines):
    """The dict of worths on lines that words like a=0 tell, in sequence; None if they tell none."""
    found = {}
    places = []
    for word in words:
        line, _, digit = word.partition("=")
        worth = worth_in(digit)
        if line not in lines or worth is None:
            return None
        places.append(lines.index(line))
        found[line] = worth
    # Each line once, in the sequence of the lines.
    rising = all([one < other for one, other in zip(places, places[1:])])
    return found if rising else None
