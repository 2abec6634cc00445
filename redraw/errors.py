"""The refusals of the whole program."""


class DrawError(ValueError):
    """Any refusal."""


class NoLog(DrawError):
    """A list of pairs holds one that no mending could have left."""


class NoStep(DrawError):
    """The log has no such step."""


class NoEnd(DrawError):
    """No choice of mendings leads to all wishes kept."""


class NoTable(DrawError):
    """Places, hues and draws do not make a table."""


class NoWish(DrawError):
    """Places and rows do not make a wish."""


class NoName(DrawError):
    """This is no name, or no wish has it."""


class NoRow(DrawError):
    """A desk knows no such row."""


class NoText(DrawError):
    """This is not the text of a riddle."""


class TooMany(DrawError):
    """There are more than the program goes through."""


class Told(DrawError):
    """A wish has this name already."""


class Spent(DrawError):
    """A place that should be drawn anew has no next draw."""
