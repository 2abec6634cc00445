"""How likely all wishes are kept soon, and how many mendings come in the mean."""

from redraw.errors import TooMany
from redraw.fraction import lowest
from redraw.riddles import all_fillings, broken, fillings_number

MOST_FILLINGS_OF_A_MEAN = 32


def drawn_anew(filling, places, row):
    """The filling with the hues of a row at these places."""
    drawn = list(filling)
    for place, hue in zip(places, row):
        drawn[place] = hue
    return tuple(drawn)


def mended(riddle, filling):
    """All fillings to which the draws of the next mending may lead, none where all wishes are kept."""
    bad = broken(riddle, filling)
    if not bad:
        return []
    places = riddle[2][bad[0]][0]
    return [drawn_anew(filling, places, row) for row in all_fillings(len(places), riddle[1])]


def ways_on(riddle):
    """For each filling, as sorted, the numbers of those to which its mending may lead."""
    fillings = all_fillings(riddle[0], riddle[1])
    numbers = {filling: number for number, filling in enumerate(fillings)}
    return [[numbers[after] for after in mended(riddle, filling)] for filling in fillings]


def after_mending(ways, parts):
    """How likely each filling stands one mending later, in parts finer by the number of fillings."""
    number = len(ways)
    later = [0] * number
    for at, after in enumerate(ways):
        if not after:
            later[at] += parts[at] * number
        for other in after:
            # A wish has some of the places, so its number of ways divides that of the fillings.
            later[other] += parts[at] * (number // len(after))
    return later


def chance(riddle, most):
    """The chance that all wishes are kept after at most so many mendings."""
    ways = ways_on(riddle)
    parts = [1] * len(ways)
    whole = len(ways)
    for step in range(most):
        parts = after_mending(ways, parts)
        whole *= len(ways)
    kept = sum(part for part, after in zip(parts, ways) if not after)
    return lowest(kept, whole)


def equations(ways):
    """For each filling that breaks a wish a row: how often the mean from each such one counts, and the sum."""
    bad = [at for at, after in enumerate(ways) if after]
    rows = []
    for number, at in enumerate(bad):
        after = ways[at]
        # The mean from here is 1 and the mean over the ways; taken times their number all is whole.
        row = [-after.count(other) for other in bad] + [len(after)]
        row[number] += len(after)
        rows.append(row)
    return rows


def crossed_out(rows, at, last):
    """The rows with the unknown of one of them gone from all the others."""
    told = []
    for number, row in enumerate(rows):
        if number == at:
            told.append(row)
        else:
            told.append([(rows[at][at] * one - row[at] * other) // last for one, other in zip(row, rows[at])])
    return told


def mean(riddle):
    """The mean of how many mendings come till all wishes are kept, or None."""
    number = fillings_number(riddle[0], riddle[1])
    if number > MOST_FILLINGS_OF_A_MEAN:
        raise TooMany("means are told of at most 32 fillings")
    ways = ways_on(riddle)
    # A broken wish has a place whose hue is not that of a given filling that keeps all, and the
    # draws of its mending may be that filling's: so all lead to it, and only where there is none
    # does one lead nowhere.
    if [] not in ways:
        return None
    rows = equations(ways)
    # Each division by the last divisor leaves no rest, and none of the divisors is 0, as all
    # fillings lead to one that keeps all: so whole numbers do, in any order of the rows.
    last = 1
    for at in range(len(rows)):
        rows = crossed_out(rows, at, last)
        last = rows[at][at]
    return lowest(sum(row[-1] for row in rows), last * number)
