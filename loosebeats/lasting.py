"""Steps of the second machine of a pair that can as well be done at once as later.

A step LASTS if, as long as what it takes stands there, whatever else its machine does leads
to a standing with the same step, and it makes no difference which of both is done first.
Then each full run that goes on without it does it later, and it can be done ahead.
"""


def are_apart(pairs, others):
    """Tells whether no line is in both tuples of pairs (place of the line, worth)."""
    places = dict(pairs)
    return not any([at in places for at, _ in others])


def are_unlike(pairs, others):
    """Tells whether a line with unlike worths is in both tuples of pairs."""
    worths = dict(pairs)
    return any([worths.get(at, worth) != worth for at, worth in others])


def excludes(step, more):
    """Tells whether the other step cannot be done while what this one takes stands there."""
    return are_unlike(step[1], more[1]) or are_unlike(step[2], more[2])


def do_touch(step, more):
    """Tells whether both steps take from one line, or give on one."""
    return not all([are_apart(step[part], more[part]) for part in (1, 2, 4)])


def likewise(steps, step):
    """Those of the steps that take and give the same as this one."""
    return [more for more in steps if more[1:5] == step[1:5]]


def do_swap(side, step, more, known):
    """Tells whether the step is there behind the other one, known to last, and both lead on alike."""
    behind = [later for later in likewise(side[more[5]], step) if later[0] in known]
    goals = [later[5] for later in likewise(side[step[5]], more)]
    return any([later[5] in goals for later in behind])


def does_last(side, steps, step, known):
    """Tells whether one of the steps of a standing lasts, if those that are known do."""
    for more in steps:
        if more[0] == step[0] or excludes(step, more):
            continue
        if do_touch(step, more) or not do_swap(side, step, more, known):
            return False
    return True


def lasting(side):
    """The numbers of all steps that last, as keys; a side is the list of the steps of each standing."""
    known = {step[0]: True for steps in side for step in steps}
    left = {}
    # Each time there are fewer, as fewer are known.
    while left != known:
        left = known
        known = {step[0]: True for steps in side for step in steps if does_last(side, steps, step, left)}
    return known
