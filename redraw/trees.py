"""Trees that tell why a mending came, by the draws alone."""

from redraw.errors import NoStep
from redraw.riddles import clashing


def grown(numbers, below):
    """The tree of these wishes, the first at the top, from the ones right below each."""
    trees = [()] * len(numbers)
    # Each stands behind the one above it, so backwards all trees below it are there already;
    # a tree may be too deep to go down it call by call.
    for at in reversed(range(len(numbers))):
        trees[at] = (numbers[at], tuple(trees[other] for other in below[at]))
    return trees[0]


def why(riddle, log, t):
    """The tree of why the mending at step t of a log came."""
    if not 0 <= t < len(log):
        raise NoStep("the log has no such step")
    clashes = clashing(riddle)
    numbers = [log[t][0]]
    below = [[]]
    # For each wish in the tree, how deep its deepest one stands, and where in numbers.
    deepest = {log[t][0]: (0, 0)}
    for number, row in reversed(log[:t]):
        above = [deepest[other] for other in clashes[number] if other in deepest]
        if above:
            depth, at = max(above)
            below[at].append(len(numbers))
            # A wish clashes with itself, so this one stands deeper than all others of its number.
            deepest[number] = (depth + 1, len(numbers))
            numbers.append(number)
            below.append([])
    return grown(numbers, below)


def had(wishes, level):
    """For each place that some of these wishes have, how many have it."""
    often = {}
    for number in level:
        for place in wishes[number][0]:
            often[place] = often.get(place, 0) + 1
    return often


def levels_of(wishes, table, tree):
    """The numbers of the wishes at each distance from the top, or None where a place has too few draws."""
    levels = []
    # For each place how many draws are left to the topmost wish that has it, which needs the most.
    # It is asked on the way down: a tree that holds one tree over and over may be too great to be
    # gone through whole, and such a one soon runs out of draws.
    left = {}
    trees = [tree]
    while trees:
        level = [number for number, below in trees]
        for place, times in had(wishes, level).items():
            left[place] = left[place] - times if place in left else len(table[place])
            if left[place] < 1:
                return None
        levels.append(level)
        trees = [other for number, below in trees for other in below]
    return levels


def has_its_draws(wish, table, deeper):
    """Whether a wish's places' draws, numbered by how many stand deeper, are one of its rows."""
    places, rows = wish
    return tuple(table[place][deeper[place]] for place in places) in rows


def passes(riddle, table, tree):
    """Whether a tree passes on a table."""
    wishes = riddle[2]
    levels = levels_of(wishes, table, tree)
    if levels is None:
        return False
    deeper = [0] * len(table)
    for level in reversed(levels):
        if not all(has_its_draws(wishes[number], table, deeper) for number in level):
            return False
        for place, times in had(wishes, level).items():
            deeper[place] += times
    return True
