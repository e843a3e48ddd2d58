"""What standings of alike machines tell, compared by letters.

A LETTER is a tuple of pairs (place of an in-line, worth): the takes of a reaction. By a
letter alone a standing ends at another one and gives flows, or it leaves rests. A PAIR is
a tuple (standing of the one, standing of the other). Two standings are like if they tell
the same by each letter, and so do those at which they end, and so on: what else comes on
the lines is taken in letters, too. The least number of letters that part two standings of
n in all is less than n, as with automata.
"""

from loosebeats.steps import full_way, no_flows, no_spots, place_behind, steps_of


def letters_of(machine):
    """The list of all letters of the reached reactions."""
    steps = steps_of(machine)
    return [step[1] for standing in machine.reached() for step in steps[standing]]


def tells_by(machine, letters):
    """For each tuple (reached standing, letter) where it ends and its flows; None if rests are left."""
    steps = steps_of(machine)
    spots = no_spots(machine)
    flows = no_flows(machine)
    told = {}
    for letter in letters:
        worths = dict(letter)
        queues = [[worths[at]] if at in worths else [] for at, _ in enumerate(spots)]
        for standing in machine.reached():
            place = (standing, spots, flows)
            goal, taken, given = place_behind(place, full_way(steps, queues, place))
            told[(standing, letter)] = (goal, given) if sum(taken) == len(letter) else None
    return told


class Likeness:
    """All pairs of reached standings of two alike machines with the same lines."""

    def __init__(self, one, other):
        # A dict in place of a list: each letter once.
        letters = {letter: True for letter in letters_of(one) + letters_of(other)}
        told = tells_by(one, letters)
        told_too = tells_by(other, letters)
        self._parting = {}
        self._later = {}
        for standing in one.reached():
            for beside in other.reached():
                rows = [(letter, told[(standing, letter)], told_too[(beside, letter)]) for letter in letters]
                self.compare((standing, beside), rows)

    def compare(self, pair, rows):
        """Keeps the first letter that parts a pair, if any, and which pairs come behind the letters."""
        parting = [letter for letter, told, told_too in rows if do_part(told, told_too)]
        if len(parting) > 0:
            self._parting[pair] = parting[0]
        self._later[pair] = [
            (letter, (told[0], told_too[0]))
            for letter, told, told_too in rows
            if told is not None and told_too is not None
        ]

    def words(self, pair):
        """For each pair that is come to from a pair, the letters that lead there: those that need few ahead."""
        found = {pair: []}
        level = [pair]
        while len(level) > 0:
            more = []
            for now in level:
                for letter, later in self._later[now]:
                    if later not in found:
                        found[later] = found[now] + [letter]
                        more.append(later)
            level = more
        return found

    def parting_word(self, pair):
        """The letters that part a pair; None if its standings are like."""
        for later, word in self.words(pair).items():
            if later in self._parting:
                return word + [self._parting[later]]
        return None

    def are_like(self, pair):
        """Tells whether the two standings of a pair are like."""
        return self.parting_word(pair) is None

    def is_closed(self, pairs):
        """Tells whether no pair of a dict with pairs as keys is parted, and all that come behind are in it."""
        for pair in pairs:
            # An unreached standing has no place here: what it tells may hang on the pacing.
            if pair not in self._later or pair in self._parting:
                return False
            if not all([later in pairs for _, later in self._later[pair]]):
                return False
        return True


def do_part(told, told_too):
    """Tells whether a letter shows that two standings are unlike."""
    if told is None or told_too is None:
        return told is not None or told_too is not None
    return told[1] != told_too[1]
