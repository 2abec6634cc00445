"""The fewest mendings till all wishes are kept, by any order, and floors that show it."""

from redraw.errors import NoEnd, TooMany
from redraw.riddles import broken, is_number
from redraw.running import have_next, standing

MOST_CHOICES = 5000


def refuse_too_many(table):
    """Refuse a table whose places may have taken their draws in too many ways."""
    product = 1
    for draws in table:
        product *= len(draws)
    if product > MOST_CHOICES:
        raise TooMany("the numbers of draws have a product of more than 5,000")


def taken_on(taken, places):
    """How many draws are taken when these places have each taken one more."""
    return tuple(beyond + 1 if place in places else beyond for place, beyond in enumerate(taken))


def mendings(riddle, table, taken):
    """Each broken wish that may be mended, in a pair with how many draws are taken then."""
    wishes = riddle[2]
    return [
        (number, taken_on(taken, wishes[number][0]))
        for number in broken(riddle, standing(table, taken))
        if have_next(table, taken, wishes[number][0])
    ]


def searched(riddle, table):
    """How each tuple of draws taken is come to by the fewest mendings, and the first that keeps all, or None.

    How is told by the number of mendings, the last wish mended and the tuple ahead of it; tuples
    that ask for more mendings than the first that keeps all may lack.
    """
    start = tuple(0 for draws in table)
    ways = {start: (0, None, None)}
    waiting = [start]
    at = 0
    while at < len(waiting):
        taken = waiting[at]
        if not broken(riddle, standing(table, taken)):
            return (ways, taken)
        for number, after in mendings(riddle, table, taken):
            if after not in ways:
                ways[after] = (ways[taken][0] + 1, number, taken)
                waiting.append(after)
        at += 1
    return (ways, None)


def fewest(riddle, table):
    """The fewest wishes mended one by one till all are kept, or None where no choice leads to that."""
    refuse_too_many(table)
    ways, taken = searched(riddle, table)
    if taken is None:
        return None
    backwards = []
    while ways[taken][0] > 0:
        depth, number, before = ways[taken]
        backwards.append(number)
        taken = before
    return backwards[::-1]


def floors_of(riddle, table):
    """Floors of which that of noughts alone is the fewest mendings."""
    refuse_too_many(table)
    ways, last = searched(riddle, table)
    if last is None:
        raise NoEnd("no choice of mendings leads to all wishes kept")
    # What comes k mendings behind the start is at least the fewest less k away from the end,
    # and a mending leads from there to what comes at most k + 1 behind it.
    most = ways[last][0]
    return {taken: max(0, most - ways[taken][0]) for taken in ways}


def is_taken(table, taken):
    """Whether the places of a table can have taken so many draws beyond their first ones."""
    if len(taken) != len(table):
        return False
    return all(is_number(beyond, 0, len(draws) - 1) for beyond, draws in zip(taken, table))


def is_floor(riddle, table, floors, taken):
    """Whether the floor of one tuple is low enough."""
    floor = floors[taken]
    if not broken(riddle, standing(table, taken)):
        return floor <= 0
    return all(floor <= 1 + floors.get(after, 0) for number, after in mendings(riddle, table, taken))


def are_floors(riddle, table, floors):
    """Whether a dict from tuples of draws taken to whole numbers is floors."""
    return all(is_taken(table, taken) and is_floor(riddle, table, floors, taken) for taken in floors)
