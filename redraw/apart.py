"""Whether clashing wishes are never broken at once."""

from redraw.riddles import all_fillings, clashing, is_broken


def first_of_both(one, other, fillings):
    """The first of these fillings that breaks both wishes, or None."""
    for filling in fillings:
        if is_broken(one, filling) and is_broken(other, filling):
            return filling
    return None


def apart(riddle):
    """That wishes are apart, or the first two that clash and are broken at once, with the first filling."""
    many, hues, wishes = riddle
    fillings = all_fillings(many, hues)
    for one, clashes in enumerate(clashing(riddle)):
        for other in clashes:
            if one < other:
                filling = first_of_both(wishes[one], wishes[other], fillings)
                if filling is not None:
                    return ("both", one, other, filling)
    return ("apart",)
