"""Riddles, fillings, and the wishes that a filling breaks."""

MOST_PLACES = 6
LEAST_HUES = 2
MOST_HUES = 4
MOST_FILLINGS = 256
MOST_WISHES = 8
MOST_PLACES_OF_A_WISH = 3


def is_number(thing, low, high):
    """Whether a thing is a whole number from low to high."""
    # True and False are ints to Python, but no whole numbers here.
    return isinstance(thing, int) and not isinstance(thing, bool) and low <= thing <= high


def is_rising(parts):
    """Whether each part is less than the next one, so that none is there twice."""
    return all(parts[k] < parts[k + 1] for k in range(len(parts) - 1))


def fillings_number(many, hues):
    """How many fillings there are for so many places and hues."""
    number = 1
    for place in range(many):
        number *= hues
    return number


def is_size(many, hues):
    """Whether a riddle may have so many places and hues, of anything."""
    if not is_number(many, 1, MOST_PLACES) or not is_number(hues, LEAST_HUES, MOST_HUES):
        return False
    return fillings_number(many, hues) <= MOST_FILLINGS


def are_places(thing, many):
    """Whether a thing is the places of a wish among so many places."""
    if not isinstance(thing, tuple) or not 1 <= len(thing) <= MOST_PLACES_OF_A_WISH:
        return False
    return all(is_number(place, 0, many - 1) for place in thing) and is_rising(thing)


def are_hues(thing, length, hues):
    """Whether a thing is a tuple of so many numbers of hues."""
    if not isinstance(thing, tuple) or len(thing) != length:
        return False
    return all(is_number(hue, 0, hues - 1) for hue in thing)


def are_rows(thing, length, hues):
    """Whether a thing is the rows of a wish with so many places."""
    if not isinstance(thing, tuple) or len(thing) == 0:
        return False
    return all(are_hues(row, length, hues) for row in thing) and is_rising(thing)


def is_wish(thing, many, hues):
    """Whether a thing is a wish for so many places and hues."""
    if not isinstance(thing, tuple) or len(thing) != 2:
        return False
    places, rows = thing
    return are_places(places, many) and are_rows(rows, len(places), hues)


def is_riddle(thing):
    """Whether a thing, which may be anything, is a riddle."""
    if not isinstance(thing, tuple) or len(thing) != 3:
        return False
    many, hues, wishes = thing
    if not is_size(many, hues):
        return False
    if not isinstance(wishes, tuple) or len(wishes) > MOST_WISHES:
        return False
    return all(is_wish(wish, many, hues) for wish in wishes)


def hues_at(filling, places):
    """The hues that a filling has at these places, in order."""
    return tuple(filling[place] for place in places)


def is_broken(wish, filling):
    """Whether a filling breaks a wish."""
    places, rows = wish
    return hues_at(filling, places) in rows


def broken(riddle, filling):
    """The numbers of all wishes that a filling breaks, rising."""
    return [number for number, wish in enumerate(riddle[2]) if is_broken(wish, filling)]


def all_fillings(many, hues):
    """All fillings of so many places, as sorted."""
    begun = [()]
    for place in range(many):
        begun = [filling + (hue,) for filling in begun for hue in range(hues)]
    return begun


def counts(riddle):
    """How many fillings break just k wishes, for k from 0 to the number of wishes."""
    many, hues, wishes = riddle
    numbers = [0] * (len(wishes) + 1)
    for filling in all_fillings(many, hues):
        numbers[len(broken(riddle, filling))] += 1
    return numbers


def clash(one, other):
    """Whether two wishes have a place in common."""
    return any(place in other[0] for place in one[0])


def clashing(riddle):
    """For each wish the numbers of all wishes with which it clashes, rising."""
    wishes = riddle[2]
    return [[number for number, other in enumerate(wishes) if clash(wish, other)] for wish in wishes]
