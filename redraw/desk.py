"""A desk that is told rows of words and answers with texts."""

from redraw.apart import apart
from redraw.chances import mean
from redraw.errors import NoRow, NoTable
from redraw.fewest import fewest
from redraw.riddles import counts
from redraw.running import run
from redraw.texts import FIGURES, read_riddle, show_riddle
from redraw.weights import least_a

MOST_FIGURES = 200
LINE_FEED = " / "


def words_of(row):
    """The words of a row."""
    if not isinstance(row, str) or "\t" in row or "\n" in row:
        raise NoRow("this is no row of words")
    words = row.split(" ")
    # Blanks at an end or side by side leave an empty word between them.
    if "" in words:
        raise NoRow("words are parted by single blanks")
    return words


def are_figures(word, most):
    """Whether a word is of figures alone, at most so many."""
    return len(word) <= most and all(sign in FIGURES for sign in word)


def are_draws_words(words):
    """Whether words tell a place and its draws."""
    if len(words) != 3 or words[0] != "draws":
        return False
    return are_figures(words[1], 1) and are_figures(words[2], MOST_FIGURES)


def run_by_numbers(riddle, table):
    """The run of a table by the order of numbers."""
    return run(riddle, table, tuple(range(len(riddle[2]))))


def answer_run(riddle, table):
    """How the run ends, and by how many mendings."""
    end, filling, log = run_by_numbers(riddle, table)
    return f"{end} {len(log)}"


def answer_filling(riddle, table):
    """The hues at the end of the run."""
    end, filling, log = run_by_numbers(riddle, table)
    return "".join(str(hue) for hue in filling)


def answer_fewest(riddle, table):
    """How many mendings there are at the least."""
    order = fewest(riddle, table)
    return "none" if order is None else str(len(order))


def answer_counts(riddle):
    """How many fillings break none, one and more wishes."""
    return " ".join(str(number) for number in counts(riddle))


def answer_mean(riddle):
    """The mean of how many mendings come."""
    fraction = mean(riddle)
    return "none" if fraction is None else f"{fraction[0]}/{fraction[1]}"


def answer_weights(riddle):
    """The least a whose weights show the riddle soon kept."""
    a = least_a(riddle)
    return "none" if a is None else str(a)


def answer_apart(riddle):
    """Whether wishes are apart."""
    return "yes" if apart(riddle) == ("apart",) else "no"


def answer_show(riddle):
    """The riddle's text in one row."""
    return show_riddle(riddle).replace("\n", LINE_FEED)


ANSWERS = {
    "counts": answer_counts,
    "mean": answer_mean,
    "weights": answer_weights,
    "apart": answer_apart,
    "show": answer_show,
}

ANSWERS_BY_DRAWS = {
    "run": answer_run,
    "filling": answer_filling,
    "fewest": answer_fewest,
}


class Desk:
    """A riddle and draws for its places, which are asked about by rows of words."""

    def __init__(self):
        self.riddle = None
        self.draws = {}

    def say(self, row):
        """The answer to a row."""
        words = words_of(row)
        if words[0] == "riddle" and len(words) > 1:
            return self.keep_riddle(words[1:])
        if self.riddle is None:
            raise NoRow("no riddle is told yet")
        if are_draws_words(words):
            return self.keep_draws(int(words[1]), [int(figure) for figure in words[2]])
        if row in ANSWERS:
            answer = ANSWERS[row]
            return answer(self.riddle)
        if row in ANSWERS_BY_DRAWS:
            answer_by_draws = ANSWERS_BY_DRAWS[row]
            return answer_by_draws(self.riddle, self.all_draws())
        raise NoRow("the desk knows no such row")

    def keep_riddle(self, words):
        """Keep the riddle of a text, told by its words, without any draws."""
        self.riddle = read_riddle(" ".join(words).replace(LINE_FEED, "\n"))
        self.draws = {}
        return "ok"

    def keep_draws(self, place, hues):
        """Keep the draws of a place instead of its last ones."""
        if place >= self.riddle[0] or max(hues) >= self.riddle[1]:
            raise NoTable("the riddle has no such place or hue")
        self.draws[place] = hues
        return "ok"

    def all_draws(self):
        """The table of all draws told."""
        many = self.riddle[0]
        if len(self.draws) < many:
            raise NoTable("draws of a place lack")
        return [self.draws[place] for place in range(many)]
