"""Draws told back from the last filling and the log of a run."""

from redraw.errors import NoLog
from redraw.riddles import are_hues
from redraw.running import run


def is_mending(wishes, pair):
    """Whether a pair is the number of a wish and one of its rows."""
    number, row = pair
    # A number below nought would count from the last wish backwards.
    return 0 <= number < len(wishes) and row in wishes[number][1]


def is_log(riddle, log):
    """Whether a list of pairs is a log, be it a run's or not."""
    wishes = riddle[2]
    return all(is_mending(wishes, pair) for pair in log)


def told_back(riddle, filling, log):
    """The table of the draws that each place has had, from its first to that of the filling."""
    if not is_log(riddle, log):
        raise NoLog("a pair is not a wish of the riddle with one of its rows")
    wishes = riddle[2]
    table = [[] for hue in filling]
    for number, row in log:
        for place, hue in zip(wishes[number][0], row):
            table[place].append(hue)
    for place, hue in enumerate(filling):
        table[place].append(hue)
    return table


def is_run(riddle, order, end, filling, log):
    """Whether there is a table by whose run by this order all this is told."""
    if not are_hues(filling, riddle[0], riddle[1]) or not is_log(riddle, log):
        return False
    # Any such table begins with the draws told back and its run takes no others,
    # so their own run decides; that it has no draw beyond them leaves it spent
    # just where a wish is still broken.
    table = told_back(riddle, filling, log)
    return run(riddle, table, order) == (end, filling, log)
