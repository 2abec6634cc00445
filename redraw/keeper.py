"""Wishes that come and go while a filling is kept that breaks none of them."""

from redraw.errors import NoName, NoTable, NoWish, Spent, Told, TooMany
from redraw.riddles import MOST_WISHES, is_number, is_size, is_wish
from redraw.running import run, standing

LETTERS = "abcdefghijklmnopqrstuvwxyz"
MOST_LETTERS = 8


def are_draws(thing, hues):
    """Whether a thing is a list of one hue or more."""
    if not isinstance(thing, list) or len(thing) == 0:
        return False
    return all(is_number(hue, 0, hues - 1) for hue in thing)


def is_table(thing, many, hues):
    """Whether a thing is a table for so many places and hues."""
    if not isinstance(thing, list) or len(thing) != many:
        return False
    return all(are_draws(draws, hues) for draws in thing)


def is_name(thing):
    """Whether a thing is a name of one to eight small letters."""
    if not isinstance(thing, str) or not 1 <= len(thing) <= MOST_LETTERS:
        return False
    return all(letter in LETTERS for letter in thing)


class Keeper:
    """A filling that is mended by the draws of a table whenever a wish is put in."""

    def __init__(self, many, hues, table):
        if not is_size(many, hues) or not is_table(table, many, hues):
            raise NoTable("these are not places, hues and a table for them")
        self.many = many
        self.hues = hues
        self.table = [list(draws) for draws in table]
        self.beyond = [0] * many
        self.wishes = {}

    def wish(self, name, places, rows):
        """Put a wish in and mend till all are kept; the names mended, in order."""
        if not is_name(name):
            raise NoName("a name has one to eight small letters")
        if name in self.wishes:
            raise Told("there is a wish of this name already")
        if not is_wish((places, rows), self.many, self.hues):
            raise NoWish("these are not the places and rows of a wish")
        if len(self.wishes) == MOST_WISHES:
            raise TooMany("there are eight wishes already")
        wishes = {**self.wishes, name: (places, rows)}
        mended = self.mended_names(wishes)
        # Nothing is changed ahead of here, so that a refusal leaves all as it was.
        for other in mended:
            for place in wishes[other][0]:
                self.beyond[place] += 1
        self.wishes = wishes
        return mended

    def mended_names(self, wishes):
        """The names of these wishes in the order in which they are mended from the filling on."""
        names = sorted(wishes)
        riddle = (self.many, self.hues, tuple(wishes[name] for name in names))
        left = [draws[beyond:] for draws, beyond in zip(self.table, self.beyond)]
        end, filling, log = run(riddle, left, tuple(range(len(names))))
        if end == "spent":
            raise Spent("a next draw lacks")
        return [names[number] for number, row in log]

    def forget(self, name):
        """Take the wish of a name out."""
        if not is_name(name) or name not in self.wishes:
            raise NoName("there is no wish of this name")
        self.wishes = {other: self.wishes[other] for other in self.wishes if other != name}

    def filling(self):
        """The filling, which keeps all wishes."""
        return standing(self.table, self.beyond)

    def names(self):
        """The names of all wishes, sorted."""
        return sorted(self.wishes)

    def taken(self):
        """How many draws each place has taken beyond its first."""
        return list(self.beyond)
