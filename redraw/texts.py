"""Riddles written as texts and read again."""

from redraw.errors import NoText
from redraw.riddles import is_riddle

FIGURES = "0123456789"


def show_wish(wish):
    """The row of a text that tells a wish."""
    places = " ".join(str(place) for place in wish[0])
    rows = " ".join("".join(str(hue) for hue in row) for row in wish[1])
    return f"wish {places}: {rows}"


def show_riddle(riddle):
    """The text of a riddle."""
    many, hues, wishes = riddle
    return "\n".join([f"places {many} hues {hues}"] + [show_wish(wish) for wish in wishes])


def figure(word):
    """The number that a word of one figure tells; of another word any number."""
    return FIGURES.find(word)


def read_wish(line):
    """A wish from what may be its row; of another row any pair of tuples."""
    before, colon, behind = line.partition(": ")
    places = tuple(figure(word) for word in before.split(" ")[1:])
    rows = tuple(tuple(figure(sign) for sign in word) for word in behind.split(" "))
    return (places, rows)


def read_riddle(text):
    """The riddle of a text."""
    if not isinstance(text, str):
        raise NoText("this is no text")
    lines = text.split("\n")
    head = lines[0].split(" ")
    if len(head) != 4:
        raise NoText("the first row does not tell places and hues")
    riddle = (figure(head[1]), figure(head[3]), tuple(read_wish(line) for line in lines[1:]))
    # Each riddle has one text alone, so all that was overlooked in reading shows when it is written again.
    if not is_riddle(riddle) or show_riddle(riddle) != text:
        raise NoText("this is not the text of a riddle")
    return riddle
