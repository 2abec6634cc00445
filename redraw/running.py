"""Runs: broken wishes mended one by one by the draws of a table."""

from redraw.riddles import hues_at, is_broken


def standing(table, taken):
    """The filling that stands when each place has taken so many draws beyond its first."""
    return tuple(draws[beyond] for draws, beyond in zip(table, taken))


def first_broken(wishes, order, filling):
    """The number of the first broken wish in the order, or None."""
    for number in order:
        if is_broken(wishes[number], filling):
            return number
    return None


def have_next(table, taken, places):
    """Whether each of these places has a next draw."""
    return all(taken[place] + 1 < len(table[place]) for place in places)


def run(riddle, table, order):
    """The run of a table by an order: how it ends, the filling that stands, and its log."""
    wishes = riddle[2]
    taken = [0] * len(table)
    filling = standing(table, taken)
    log = []
    number = first_broken(wishes, order, filling)
    while number is not None:
        places = wishes[number][0]
        # All places are asked ahead of any draw: a wish that cannot be mended whole takes none.
        if not have_next(table, taken, places):
            return ("spent", filling, log)
        log.append((number, hues_at(filling, places)))
        for place in places:
            taken[place] += 1
        filling = standing(table, taken)
        number = first_broken(wishes, order, filling)
    return ("kept", filling, log)
