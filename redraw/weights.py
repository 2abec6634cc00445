"""Weights that show a riddle soon kept."""

from redraw.fraction import lowest
from redraw.riddles import clashing, fillings_number

PARTS = 64


def share(wish, hues):
    """The fraction of the rows of hues for a wish's places that are its rows."""
    places, rows = wish
    return lowest(len(rows), fillings_number(len(places), hues))


def room(weights, number, clashes):
    """A wish's weight times 1 less each other weight with which it clashes."""
    above, below = weights[number]
    for other in clashes:
        if other != number:
            above *= weights[other][1] - weights[other][0]
            below *= weights[other][1]
    return lowest(above, below)


def is_at_most(one, other):
    """Whether a fraction is at most another one."""
    return one[0] * other[1] <= other[0] * one[1]


def shows_soon(riddle, weights):
    """Whether weights show a riddle soon kept."""
    many, hues, wishes = riddle
    return all(
        is_at_most(share(wishes[number], hues), room(weights, number, clashes))
        for number, clashes in enumerate(clashing(riddle))
    )


def alike_weights(riddle, a):
    """The weight a / 64 for each wish."""
    return [lowest(a, PARTS) for wish in riddle[2]]


def least_a(riddle):
    """The least a for which weights a / 64 show a riddle soon kept, or None."""
    for a in range(1, PARTS):
        if shows_soon(riddle, alike_weights(riddle, a)):
            return a
    return None


def weights_of(riddle):
    """The least weights a / 64, one a for all wishes, that show a riddle soon kept, or None."""
    a = least_a(riddle)
    return None if a is None else alike_weights(riddle, a)


def least_kept(riddle, weights):
    """The number of all fillings times 1 less each weight."""
    above = fillings_number(riddle[0], riddle[1])
    below = 1
    for one, whole in weights:
        above *= whole - one
        below *= whole
    return lowest(above, below)


def most_mended(riddle, weights):
    """The sum of each weight divided by 1 less it."""
    above = 0
    below = 1
    for one, whole in weights:
        rest = whole - one
        above = above * rest + one * below
        below *= rest
    return lowest(above, below)
