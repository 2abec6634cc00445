"""The desk: point 15."""

import collections
import itertools
import unittest

from redraw import desk as module
from redraw.desk import Desk
from redraw.errors import NoRow, NoTable, NoText, TooMany
from samples import ANYTHING, SIZES, chance, plain_run, some_riddle

# Places 0 and 1 mustn't both have hue 0, and place 1 mustn't have hue 1.
RIDDLE = "riddle places 2 hues 3 / wish 0 1: 00 / wish 1: 1"
EMPTY = "riddle places 1 hues 2"
ASKED = ["run", "filling", "fewest", "counts", "mean", "weights", "apart", "show"]
BY_DRAWS = ["run", "filling", "fewest"]

NO_ROWS = [
    "", " ", "  ", "\t", "\n", "run ", " run", "run  ", "  run", "run\t", "\trun", "run\n", "\nrun", "run run", "run 0",
    "run 0 1", "Run",
    "RUN", "ru", "runs", "run.", "filling ", " filling", "filling 0", "fill", "fewest 0", "fewest\n", "counts 1",
    "counts  ",
    "mean 1", "means", "weights 1", "weight", "apart yes", "aparts", "show riddle", "show 1", "shows", "ok", "none",
    "yes", "help",
    "draws", "draws ", "draws 0", "draws 0 ", "draws  0 0", "draws 0  0", " draws 0 0", "draws 0 0 ", "draws 0 0 0",
    "draws 0 0 1 2",
    "draws 00 0", "draws 01 0", "draws 10 0", "draws 12 012", "draws a 0", "draws 0 a", "draws 0 0a", "draws 0 a0",
    "draws -1 0", "draws 0 -1",
    "draws +0 0", "draws 0 +1", "draws 0 0,1", "draws 0 [0]", "draws 0\t0", "draws\t0 0", "draws 0 0\t", "draws 0 0\n",
    "draws\n0 0", "draws 0\n0",
    "draws 0: 0", "draws 0 0.", "draws . 0", "draws 0 0_1", "Draws 0 0", "draw 0 0", "drawss 0 0", "draws0 0",
    "draws 00",
    "draws 0 " + "0" * 201, "draws 0 " + "1" * 202, "draws 0 " + "0" * 3000, "draws 9 " + "9" * 201,
    "draws 0 " + "0" * 200 + "a",
    "riddle", "riddle ", " riddle", "riddles places 1 hues 2", "Riddle places 1 hues 2", "places 1 hues 2", "wish 0: 0",
    "riddle  places 1 hues 2", "riddle places 1 hues 2 ", " riddle places 1 hues 2", "riddle places  1 hues 2",
    "riddle places 1 hues 2\n",
    "riddle places 1 hues 2\t", "riddle places 1 hues 2\nwish 0: 0", "riddle places 1 hues 2 /\nwish 0: 0",
    "riddle\tplaces 1 hues 2",
    "riddle\nplaces 1 hues 2", "riddle places\t1 hues 2", "riddle places 1 hues 2  / wish 0: 0",
    "riddle places 1 hues 2 /  wish 0: 0",
    "riddle places 1 hues 2 / wish 0: 0 ", "riddle places 1 hues 2 / wish 0: 0  1", "riddle  ", "riddle \n",
    "riddle \t", "riddle x ", "riddle  x",
    "riddle x\ty", "riddle x\ny", "x", "~", "/", "a b c", "x" * 4000, "a " * 1999 + "a", "run / run", "run\nrun",
]

NO_RIDDLES = [
    "riddle x", "riddle riddle", "riddle /", "riddle / /", "riddle places", "riddle places 1", "riddle places 1 hues",
    "riddle places 0 hues 2",
    "riddle places 7 hues 2", "riddle places 1 hues 5", "riddle places 5 hues 4", "riddle places 01 hues 2",
    "riddle Places 1 hues 2",
    "riddle places 1 hues 2 /", "riddle / places 1 hues 2", "riddle places 1 hues 2 / / wish 0: 0",
    "riddle places 1 hues 2/ wish 0: 0",
    "riddle places 1 hues 2 /wish 0: 0", "riddle places 1 hues 2/wish 0: 0", "riddle places 1 hues 2 wish 0: 0",
    "riddle places 1 hues 2 / wish 0:",
    "riddle places 1 hues 2 / wish 1: 0", "riddle places 1 hues 2 / wish 0: 2", "riddle places 1 hues 2 / wish 0: 1 0",
    "riddle places 1 hues 2 / wish 0: 0 0", "riddle places 1 hues 2 // wish 0: 0",
    "riddle places 1 hues 2 / wish 0: 0 /",
    "riddle places 1 hues 2 / wish 0 : 0", "riddle places 1 hues 2 / wish 0: 0 / places 1 hues 2",
    "riddle riddle places 1 hues 2",
    "riddle places 1 hues 2" + " / wish 0: 0" * 9, "riddle places / 1 hues 2", "riddle " + "x" * 3900,
    "riddle draws 0 0", "riddle run",
]


def in_one_row(riddle):
    """The row that tells a riddle to a desk."""
    told = f"riddle places {riddle[0]} hues {riddle[1]}"
    for places, rows in riddle[2]:
        told += " / wish " + " ".join(map(str, places)) + ": " + " ".join("".join(map(str, row)) for row in rows)
    return told


class Case(unittest.TestCase):
    def begun(self, *rows):
        """A desk that has been told some rows."""
        desk = Desk()
        for row in rows:
            self.assertEqual(desk.say(row), "ok", row)
        return desk

    def check_refused(self, desk, refusal, row):
        ahead = repr(row)
        with self.assertRaises(refusal) as caught:
            desk.say(row)
        self.assertIs(type(caught.exception), refusal, ahead)
        self.assertEqual(repr(row), ahead)

    def check_answers(self, desk, rows):
        for row, answer in rows.items():
            told = desk.say(row)
            self.assertEqual(told, answer, row)
            self.assertIs(type(told), str)


class ByHand(Case):
    def test_each_row(self):
        desk = self.begun(RIDDLE, "draws 0 021", "draws 1 012")
        answers = {
            "run": "kept 2", "filling": "22", "fewest": "2", "counts": "5 4 0", "mean": "4/5", "weights": "none", "apart": "yes",
            "show": "places 2 hues 3 / wish 0 1: 00 / wish 1: 1",
        }
        self.check_answers(desk, answers)
        for rows in itertools.islice(itertools.permutations(answers), 0, 40320, 997):
            self.check_answers(desk, {row: answers[row] for row in rows})

    def test_without_wishes(self):
        desk = self.begun("riddle places 2 hues 4", "draws 1 3", "draws 0 012")
        self.check_answers(desk, {
            "run": "kept 0", "filling": "03", "fewest": "0", "counts": "16", "mean": "0/1", "weights": "1", "apart": "yes",
            "show": "places 2 hues 4",
        })

    def test_where_no_filling_keeps_all(self):
        desk = self.begun("riddle places 1 hues 2 / wish 0: 0 1", "draws 0 0110")
        self.check_answers(desk, {
            "run": "spent 3", "filling": "0", "fewest": "none", "counts": "0 2", "mean": "none", "weights": "none", "apart": "yes",
            "show": "places 1 hues 2 / wish 0: 0 1",
        })

    def test_where_the_order_of_numbers_is_spent(self):
        desk = self.begun("riddle places 2 hues 2 / wish 0 1: 00 / wish 0: 0 / wish 1: 1", "draws 0 01", "draws 1 01")
        self.check_answers(desk, {"run": "spent 1", "filling": "11", "fewest": "1", "apart": "no", "counts": "1 1 2 0"})

    def test_where_weights_show_it(self):
        desk = self.begun("riddle places 3 hues 2 / wish 0 1 2: 000")
        # The least a / 64 that is at least an eighth.
        self.check_answers(desk, {"weights": "8", "mean": "1/7", "counts": "7 1"})
        self.check_answers(self.begun("riddle places 1 hues 2 / wish 0: 0"), {"weights": "32", "mean": "1/1"})
        desk = self.begun("riddle places 3 hues 3 / wish 0 1 2: 000")
        self.check_answers(desk, {"weights": "3", "mean": "1/26", "counts": "26 1"})

    def test_many_mendings(self):
        desk = self.begun("riddle places 1 hues 2 / wish 0: 0", "draws 0 " + "0" * 199 + "1")
        self.check_answers(desk, {"run": "kept 199", "filling": "1", "fewest": "199"})
        self.assertEqual(desk.say("draws 0 " + "0" * 200), "ok")
        self.check_answers(desk, {"run": "spent 199", "filling": "0", "fewest": "none"})

    def test_the_greatest_riddle(self):
        desk = self.begun("riddle places 4 hues 4" + " / wish 0 1 2: 000" * 8, *[f"draws {place} 0001" for place in range(4)])
        self.check_answers(desk, {"run": "kept 3", "filling": "1110", "fewest": "3", "counts": "252 0 0 0 0 0 0 0 4", "apart": "no"})


class Told(Case):
    def test_draws_told_anew(self):
        desk = self.begun(RIDDLE, "draws 0 021", "draws 1 012")
        self.check_answers(desk, {"run": "kept 2", "filling": "22"})
        self.assertEqual(desk.say("draws 0 1"), "ok")
        self.check_answers(desk, {"run": "kept 0", "filling": "10"})
        self.assertEqual(desk.say("draws 1 11"), "ok")
        self.check_answers(desk, {"run": "spent 1", "filling": "11", "fewest": "none"})
        self.assertEqual(desk.say("draws 1 1112"), "ok")
        self.check_answers(desk, {"run": "kept 3", "filling": "12", "fewest": "3"})

    def test_draws_in_any_order(self):
        for places in itertools.permutations(range(3)):
            desk = self.begun("riddle places 3 hues 4 / wish 0 2: 00", *[f"draws {place} {'0123'[:place + 2]}" for place in places])
            self.check_answers(desk, {"run": "kept 1", "filling": "101"})

    def test_riddle_told_anew(self):
        desk = self.begun(RIDDLE, "draws 0 021", "draws 1 012", "riddle places 2 hues 2 / wish 0: 1")
        self.assertEqual(desk.say("show"), "places 2 hues 2 / wish 0: 1")
        self.assertEqual(desk.say("counts"), "2 2")
        for row in BY_DRAWS:
            self.check_refused(desk, NoTable, row)
        self.assertEqual(desk.say("draws 0 10"), "ok")
        for row in BY_DRAWS:
            self.check_refused(desk, NoTable, row)
        self.assertEqual(desk.say("draws 1 1"), "ok")
        self.check_answers(desk, {"run": "kept 1", "filling": "01"})

    def test_the_same_riddle_forgets_all_draws_too(self):
        desk = self.begun(EMPTY, "draws 0 01", EMPTY)
        for row in BY_DRAWS:
            self.check_refused(desk, NoTable, row)

    def test_a_riddle_of_fewer_or_more_places(self):
        desk = self.begun("riddle places 3 hues 2", "draws 0 0", "draws 1 1", "draws 2 1", "riddle places 1 hues 2")
        self.check_refused(desk, NoTable, "run")
        self.assertEqual(desk.say("draws 0 1"), "ok")
        self.assertEqual(desk.say("filling"), "1")
        self.assertEqual(desk.say("riddle places 2 hues 2"), "ok")
        self.assertEqual(desk.say("draws 1 1"), "ok")
        self.check_refused(desk, NoTable, "filling")

    def test_up_to_two_hundred_draws(self):
        for number in (1, 2, 199, 200):
            desk = self.begun("riddle places 1 hues 2 / wish 0: 0", "draws 0 " + "0" * number)
            self.assertEqual(desk.say("run"), f"spent {number - 1}")
        for number in (201, 202, 1000):
            self.check_refused(desk, NoRow, "draws 0 " + "0" * number)
        self.assertEqual(desk.say("run"), "spent 199")

    def test_asking_changes_nothing(self):
        desk = self.begun(RIDDLE, "draws 0 021", "draws 1 012")
        first = [desk.say(row) for row in ASKED]
        for _ in range(3):
            self.assertEqual([desk.say(row) for row in ASKED], first)

    def test_two_desks_by_turns(self):
        one, other = Desk(), Desk()
        self.assertEqual(one.say(RIDDLE), "ok")
        for row in ASKED + ["draws 0 0"]:
            self.check_refused(other, NoRow, row)
        self.assertEqual(other.say("riddle places 2 hues 2 / wish 0: 0"), "ok")
        self.assertEqual(one.say("draws 0 021"), "ok")
        self.assertEqual(other.say("draws 1 1"), "ok")
        self.check_refused(one, NoTable, "run")
        self.check_refused(other, NoTable, "run")
        self.assertEqual(one.say("draws 1 012"), "ok")
        self.check_refused(other, NoTable, "run")
        self.assertEqual(other.say("draws 0 001"), "ok")
        self.assertEqual([one.say("run"), other.say("run"), one.say("filling"), other.say("filling")], ["kept 2", "kept 2", "22", "11"])
        self.assertEqual(one.say(EMPTY), "ok")
        self.assertEqual([one.say("show"), other.say("show")], ["places 1 hues 2", "places 2 hues 2 / wish 0: 0"])
        self.assertEqual(other.say("run"), "kept 2")


class Refused(Case):
    def test_without_a_riddle(self):
        desk = Desk()
        for row in ASKED + ["draws 0 0", "draws 9 9", "draws 0 012"] + NO_ROWS + ANYTHING:
            self.check_refused(desk, NoRow, row)
        for row in NO_RIDDLES:
            self.check_refused(desk, NoText, row)
        for row in ASKED + ["draws 0 0"]:
            self.check_refused(desk, NoRow, row)
        self.assertEqual(desk.say(EMPTY), "ok")

    def test_none_of_these_rows(self):
        desk = self.begun(RIDDLE, "draws 0 021", "draws 1 012")
        first = [desk.say(row) for row in ASKED]
        for row in NO_ROWS + ANYTHING:
            self.check_refused(desk, NoRow, row)
            self.assertEqual([desk.say("show"), desk.say("run"), desk.say("filling")], [first[7], first[0], first[1]])
        self.assertEqual([desk.say(row) for row in ASKED], first)

    def test_none_of_these_rows_without_draws(self):
        desk = self.begun("riddle places 6 hues 2")
        for row in NO_ROWS + ANYTHING:
            self.check_refused(desk, NoRow, row)
        for row in BY_DRAWS:
            self.check_refused(desk, NoTable, row)

    def test_each_row_with_a_sign_more_or_fewer(self):
        desk = self.begun(RIDDLE, "draws 0 021", "draws 1 012")
        for row in ASKED:
            for at in range(len(row) + 1):
                for sign in " \t\nxA0/":
                    self.check_refused(desk, NoRow, row[:at] + sign + row[at:])
                if at < len(row):
                    self.check_refused(desk, NoRow, row[:at] + row[at + 1:])

    def test_tabs_and_line_feeds_anywhere(self):
        desk = self.begun(RIDDLE, "draws 0 021", "draws 1 012")
        for row in (RIDDLE, "draws 0 021"):
            for at in range(len(row) + 1):
                for sign in "\t\n":
                    self.check_refused(desk, NoRow, row[:at] + sign + row[at:])
                    if at < len(row):
                        self.check_refused(desk, NoRow, row[:at] + sign + row[at + 1:])

    def test_blanks_at_an_end_or_side_by_side(self):
        desk = self.begun(RIDDLE, "draws 0 021", "draws 1 012")
        for row in (RIDDLE, "draws 0 021", "run"):
            for other in [" " + row, row + " "] + [row[:at] + " " + row[at:] for at, sign in enumerate(row) if sign == " "]:
                self.check_refused(desk, NoRow, other)

    def test_texts_that_are_none(self):
        desk = self.begun(RIDDLE, "draws 0 021", "draws 1 012")
        first = [desk.say(row) for row in ASKED]
        for row in NO_RIDDLES:
            self.check_refused(desk, NoText, row)
            self.assertEqual([desk.say("show"), desk.say("run")], [first[7], first[0]])
        self.assertEqual([desk.say(row) for row in ASKED], first)

    def test_places_that_there_are_not(self):
        for many, hues in SIZES:
            desk = self.begun(f"riddle places {many} hues {hues}")
            for place in range(10):
                if place < many:
                    self.assertEqual(desk.say(f"draws {place} 0"), "ok")
                else:
                    self.check_refused(desk, NoTable, f"draws {place} 0")
            self.assertEqual(desk.say("filling"), "0" * many)

    def test_hues_that_there_are_not(self):
        for hues in (2, 3, 4):
            desk = self.begun(f"riddle places 2 hues {hues}", "draws 0 0", "draws 1 1")
            for hue in range(hues, 10):
                for word in (f"{hue}", f"0{hue}", f"{hue}0", "0" * 199 + f"{hue}", f"01{hue}10"):
                    self.check_refused(desk, NoTable, f"draws 0 {word}")
                    self.check_refused(desk, NoTable, f"draws 1 {word}")
                    self.check_refused(desk, NoTable, f"draws 2 {word}")
            # The draws told last are kept.
            self.assertEqual(desk.say("filling"), "01")
            self.assertEqual(desk.say(f"draws 0 {hues - 1}"), "ok")
            self.assertEqual(desk.say("filling"), f"{hues - 1}1")

    def test_refused_draws_are_not_draws(self):
        desk = self.begun(EMPTY)
        self.check_refused(desk, NoTable, "draws 0 02")
        for row in BY_DRAWS:
            self.check_refused(desk, NoTable, row)

    def test_where_draws_of_a_place_lack(self):
        for lacks in range(3):
            desk = self.begun("riddle places 3 hues 2", *[f"draws {place} 01" for place in range(3) if place != lacks])
            for row in BY_DRAWS:
                self.check_refused(desk, NoTable, row)
            self.check_answers(desk, {"counts": "8", "mean": "0/1", "weights": "1", "apart": "yes", "show": "places 3 hues 2"})
            self.assertEqual(desk.say(f"draws {lacks} 1"), "ok")
            self.assertEqual(desk.say("run"), "kept 0")

    def test_as_the_functions_refuse(self):
        desk = self.begun("riddle places 2 hues 2 / wish 0: 0", "draws 0 " + "0" * 50, "draws 1 " + "0" * 100)
        self.assertEqual(desk.say("fewest"), "none")
        self.assertEqual(desk.say("draws 1 " + "0" * 101), "ok")
        self.check_refused(desk, TooMany, "fewest")
        self.check_answers(desk, {"run": "spent 49", "filling": "00", "mean": "1/1"})
        sizes = [("5 hues 2", False), ("3 hues 3", False), ("6 hues 2", True), ("4 hues 3", True), ("3 hues 4", True)]
        for size, refused in sizes + [("4 hues 4", True)]:
            self.assertEqual(desk.say(f"riddle places {size}"), "ok")
            if refused:
                self.check_refused(desk, TooMany, "mean")
            else:
                self.assertEqual(desk.say("mean"), "0/1")
            self.assertEqual(desk.say("apart"), "yes")

    def test_two_refusals_due_at_once(self):
        desk = Desk()
        # Without a riddle, a row of words or not, ahead of what the text tells.
        self.check_refused(desk, NoRow, "riddle x ")
        self.check_refused(desk, NoRow, "draws 9 9")
        self.assertEqual(desk.say("riddle places 3 hues 2"), "ok")
        self.check_refused(desk, NoRow, "draws 9 " + "9" * 201)
        self.check_refused(desk, NoRow, "draws 9 9x")
        self.check_refused(desk, NoRow, "riddle places 9  hues 2")
        for place in (0, 1):
            self.assertEqual(desk.say(f"draws {place} " + "0" * 200), "ok")
        # Draws lack, and those that are there are too many already.
        self.check_refused(desk, NoTable, "fewest")
        self.assertEqual(desk.say("draws 2 0"), "ok")
        self.check_refused(desk, TooMany, "fewest")


class ByAnotherWay(Case):
    def test_runs_of_many_riddles(self):
        rng = chance(1501)
        seen = collections.Counter()
        desk = Desk()
        for many, hues in SIZES * 8:
            riddle = some_riddle(rng, many, hues, rng.randint(0, 8), 2)
            self.assertEqual(desk.say(in_one_row(riddle)), "ok")
            table = [[rng.randrange(hues) for _ in range(rng.randint(1, 30))] for _ in range(many)]
            for place in rng.sample(range(many), many):
                self.assertEqual(desk.say(f"draws {place} " + "".join(map(str, table[place]))), "ok")
            end, filling, log = plain_run(riddle, table, tuple(range(len(riddle[2]))))
            self.check_answers(desk, {
                "run": f"{end} {len(log)}", "filling": "".join(map(str, filling)), "show": in_one_row(riddle)[len("riddle "):],
            })
            seen[end] += 1
        self.assertGreater(min(seen["kept"], seen["spent"]), 15)


class Interface(unittest.TestCase):
    def test_it_stands_in_its_file(self):
        self.assertEqual(module.Desk.__module__, "redraw.desk")
        self.assertIn("say", vars(Desk))


if __name__ == "__main__":
    unittest.main()
