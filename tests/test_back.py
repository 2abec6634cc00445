"""Draws told back, and whether there is such a run: point 7."""

import copy
import itertools
import unittest

from redraw.back import is_run, told_back
from redraw.errors import NoLog
from samples import chance, plain_run, plain_taken, some_runs

HUGE = 10 ** 60 - 1
NOUGHT = ((0,), ((0,),))
ONE_PLACE = (1, 2, (NOUGHT,))
RIDDLE = (3, 3, (
    ((0, 1), ((0, 0), (1, 2))),
    ((2,), ((0,), (2,))),
    ((0, 1, 2), ((2, 2, 1),)),
))
LOG = [(1, (0,)), (1, (2,)), (0, (0, 0)), (0, (1, 2)), (2, (2, 2, 1))]
FILLING = (0, 1, 1)
TABLE = [[0, 1, 2, 0], [0, 2, 2, 1], [0, 2, 1, 1]]

# By the order (2, 0, 1) the hues 1 and 0 of place 1 must come behind wish 0's mending.
TURNS = (2, 3, (((0,), ((0,),)), ((1,), ((1,),)), ((1,), ((0,),))))
TURNS_ORDER = (2, 0, 1)
TURNS_LOG = [(0, (0,)), (1, (1,)), (2, (0,))]

NO_PAIRS = [
    (3, (0,)), (3, (0, 0)), (4, (0,)), (8, (0, 0)), (HUGE, (0,)), (3, ()),
    (-1, (2, 2, 1)), (-2, (0,)), (-3, (0, 0)), (-4, (0,)), (-HUGE, (0,)),
    (0, (0,)), (0, (0, 0, 0)), (0, ()), (0, (1, 2, 2)), (0, (1,)), (0, (2, 2, 1)), (0, (0, 1)), (0, (2, 1)),
    (0, (1, HUGE)), (0, (-HUGE, 0)), (0, (0, -3)), (0, (3, 3)),
    (1, (1,)), (1, (0, 0)), (1, ()), (1, (0, 2)), (1, (-1,)), (1, (3,)), (1, (HUGE,)),
    (2, (2, 2)), (2, (2, 2, 1, 0)), (2, (2, 2, 2)), (2, (0, 0)), (2, (0,)), (2, ()), (2, (1, 2, 2)),
]


def as_run(riddle, order, end, filling, log):
    """Whether the draws that a right log names, run in a plain way, tell just this."""
    wishes = riddle[2]
    if any(wish not in range(len(wishes)) or row not in wishes[wish][1] for wish, row in log):
        return False
    table = [[] for _ in filling]
    for wish, row in log + [(None, filling)]:
        for place, hue in zip(range(riddle[0]) if wish is None else wishes[wish][0], row):
            table[place].append(hue)
    return plain_run(riddle, table, order) == (end, filling, log)


class ToldBack(unittest.TestCase):
    def test_by_hand(self):
        self.assertEqual(told_back(ONE_PLACE, (1,), [(0, (0,)), (0, (0,))]), [[0, 0, 1]])
        self.assertEqual(told_back(RIDDLE, FILLING, LOG), TABLE)
        self.assertEqual(plain_run(RIDDLE, TABLE, (1, 0, 2)), ("kept", FILLING, LOG))

    def test_an_empty_log(self):
        self.assertEqual(told_back((1, 2, ()), (1,), []), [[1]])
        self.assertEqual(told_back(RIDDLE, (2, 0, 1), []), [[2], [0], [1]])

    def test_a_log_that_is_no_run(self):
        # Told back are draws of any log, in its order, also where no run has it.
        log = [(1, (2,)), (1, (0,)), (2, (2, 2, 1)), (1, (0,))]
        self.assertEqual(told_back(RIDDLE, (0, 0, 0), log), [[2, 0], [2, 0], [2, 0, 1, 0, 0]])

    def test_the_draws_that_runs_took(self):
        for riddle, table, order in some_runs(41, 6) + some_runs(42, 12, 2):
            end, filling, log = plain_run(riddle, table, order)
            ahead = repr(log)
            self.assertEqual(told_back(riddle, filling, log), plain_taken(riddle, table, log))
            self.assertEqual(repr(log), ahead)

    def test_some_hundred_mendings(self):
        for many in (100, 257, 700, 3000):
            self.assertEqual(told_back(ONE_PLACE, (1,), [(0, (0,))] * many), [[0] * many + [1]])

    def test_kinds_and_new_lists(self):
        riddle = (3, 2, (((0, 1, 2), ((0, 0, 0),)),))
        log = [(0, (0, 0, 0))]
        first = told_back(riddle, (0, 0, 0), log)
        second = told_back(riddle, (0, 0, 0), log)
        lists = [first, second, log] + first + second
        for part in lists:
            self.assertIs(type(part), list)
        self.assertEqual(len({id(part) for part in lists}), 9)
        first[0].append(1)
        first.pop()
        self.assertEqual(first, [[0, 0, 1], [0, 0]])
        self.assertEqual(told_back(riddle, (0, 0, 0), log), [[0, 0]] * 3)
        self.assertEqual(log, [(0, (0, 0, 0))])

    def test_no_log_at_any_step(self):
        for pair in NO_PAIRS:
            for at in range(len(LOG) + 1):
                log = LOG[:at] + [pair] + LOG[at:]
                ahead = copy.deepcopy(log)
                with self.assertRaises(NoLog, msg=repr(log)):
                    told_back(RIDDLE, FILLING, log)
                self.assertEqual(log, ahead)

    def test_no_log_alone(self):
        for pair in NO_PAIRS:
            with self.assertRaises(NoLog, msg=repr(pair)):
                told_back(RIDDLE, FILLING, [pair])

    def test_a_riddle_without_wishes_has_no_pairs(self):
        for pair in ((0, (0,)), (0, ()), (-1, (0,)), (HUGE, ())):
            with self.assertRaises(NoLog):
                told_back((1, 2, ()), (0,), [pair])

    def test_after_a_refusal_all_goes_on(self):
        log = list(LOG)
        log.append((-1, (2, 2, 1)))
        with self.assertRaises(NoLog):
            told_back(RIDDLE, FILLING, log)
        log.pop()
        self.assertEqual(told_back(RIDDLE, FILLING, log), TABLE)


class IsRun(unittest.TestCase):
    def check(self, expected, riddle, order, end, filling, log):
        ahead = copy.deepcopy(log)
        told = is_run(riddle, order, end, filling, log)
        self.assertIs(told, expected, (riddle, order, end, filling, log))
        self.assertEqual(log, ahead)

    def test_by_hand(self):
        self.check(True, RIDDLE, (1, 0, 2), "kept", FILLING, LOG)
        self.check(False, RIDDLE, (1, 0, 2), "spent", FILLING, LOG)
        self.check(True, ONE_PLACE, (0,), "kept", (1,), [])
        self.check(False, ONE_PLACE, (0,), "spent", (1,), [])
        self.check(True, ONE_PLACE, (0,), "spent", (0,), [])
        self.check(False, ONE_PLACE, (0,), "kept", (0,), [])
        self.check(True, ONE_PLACE, (0,), "kept", (1,), [(0, (0,))])
        self.check(True, ONE_PLACE, (0,), "spent", (0,), [(0, (0,))])
        self.check(True, (1, 2, ()), (), "kept", (0,), [])
        self.check(False, (1, 2, ()), (), "spent", (0,), [])

    def test_another_order(self):
        self.check(False, RIDDLE, (0, 1, 2), "kept", FILLING, LOG)
        self.check(False, RIDDLE, (0, 2, 1), "kept", FILLING, LOG)
        self.check(False, RIDDLE, (2, 0, 1), "kept", FILLING, LOG)
        # Wish 2 is never broken beside another one in this run: its number may stand anywhere.
        self.check(True, RIDDLE, (2, 1, 0), "kept", (0, 1, 1), [(1, (0,))])
        self.check(True, RIDDLE, (0, 1, 2), "kept", (0, 1, 1), [(1, (0,))])

    def test_alike_wishes_by_their_order(self):
        riddle = (1, 2, (NOUGHT, NOUGHT))
        self.check(True, riddle, (0, 1), "kept", (1,), [(0, (0,))])
        self.check(False, riddle, (1, 0), "kept", (1,), [(0, (0,))])
        self.check(True, riddle, (1, 0), "kept", (1,), [(1, (0,))])
        self.check(False, riddle, (1, 0), "kept", (1,), [(1, (0,)), (0, (0,))])

    def test_another_filling(self):
        for filling in itertools.product(range(3), repeat=3):
            for end in ("kept", "spent"):
                self.check(as_run(RIDDLE, (1, 0, 2), end, filling, LOG), RIDDLE, (1, 0, 2), end, filling, LOG)
        self.check(False, RIDDLE, (1, 0, 2), "kept", (0, 0, 1), LOG)
        self.check(True, RIDDLE, (1, 0, 2), "spent", (0, 0, 1), LOG)
        self.check(True, RIDDLE, (1, 0, 2), "kept", (1, 1, 1), LOG)

    def check_turns(self, expected, log):
        self.check(expected, TURNS, TURNS_ORDER, "kept", (1, 2), log)

    def test_a_step_left_out(self):
        first, second, third = TURNS_LOG
        self.check_turns(True, TURNS_LOG)
        self.check_turns(False, [first, third])
        # A shorter log may be a run by itself.
        self.check_turns(True, [second, third])
        self.check_turns(True, [first, second])
        self.check_turns(True, [third])
        self.check_turns(True, [])
        self.check(True, RIDDLE, (1, 0, 2), "kept", FILLING, LOG[:1] + LOG[2:])
        self.check(True, RIDDLE, (1, 0, 2), "kept", FILLING, LOG[:2])
        self.check(True, ONE_PLACE, (0,), "kept", (1,), [(0, (0,))] * 3)
        self.check(True, ONE_PLACE, (0,), "kept", (1,), [(0, (0,))] * 2)

    def test_a_step_doubled(self):
        first, second, third = TURNS_LOG
        self.check_turns(False, TURNS_LOG + [first])
        self.check_turns(False, TURNS_LOG + TURNS_LOG)
        # Right behind itself it is a run's again: of a table that has these draws twice.
        self.check_turns(True, [first, first, second, third])
        self.check_turns(True, [first, second, second, third])
        self.check_turns(True, [first, second, third, third])
        # And so where its draw may well come first of all.
        self.check_turns(True, [third] + TURNS_LOG)

    def test_steps_exchanged_or_changed(self):
        first, second, third = TURNS_LOG
        self.check_turns(False, [first, third, second])
        self.check_turns(False, [third, second, first])
        self.check_turns(False, [first, third, third])
        self.check_turns(False, [first, second, first])
        self.check_turns(False, [second, second, first])
        # Hue 0 of place 1 may well come first of all.
        self.check_turns(True, [third, first, second])

    def test_the_steps_of_unlike_places_exchanged(self):
        riddle = (2, 2, (((0,), ((0,),)), ((1,), ((0,),))))
        self.check(True, riddle, (0, 1), "kept", (1, 1), [(0, (0,)), (1, (0,))])
        self.check(False, riddle, (0, 1), "kept", (1, 1), [(1, (0,)), (0, (0,))])
        self.check(True, riddle, (1, 0), "kept", (1, 1), [(1, (0,)), (0, (0,))])

    def test_pairs_that_are_no_logs(self):
        for pair in NO_PAIRS:
            for log in ([pair], [pair] + LOG, LOG[:2] + [pair] + LOG[2:], LOG + [pair], [pair] * 3):
                for end in ("kept", "spent"):
                    self.check(False, RIDDLE, (1, 0, 2), end, FILLING, log)
        self.check(False, (1, 2, ()), (), "kept", (0,), [(0, (0,))])
        self.check(False, (1, 2, ()), (), "kept", (0,), [(-1, ())])

    def test_a_run_of_some_hundred_mendings(self):
        for many in (100, 257, 700, 3000):
            self.check(True, ONE_PLACE, (0,), "kept", (1,), [(0, (0,))] * many)
            self.check(True, ONE_PLACE, (0,), "spent", (0,), [(0, (0,))] * many)
            self.check(False, ONE_PLACE, (0,), "kept", (0,), [(0, (0,))] * many)
            self.check(False, ONE_PLACE, (0,), "spent", (1,), [(0, (0,))] * many)
            self.check(False, ONE_PLACE, (0,), "kept", (1,), [(0, (0,))] * many + [(0, (1,))])

    def test_the_runs_of_tables(self):
        for riddle, table, order in some_runs(43, 6) + some_runs(44, 12, 2):
            end, filling, log = plain_run(riddle, table, order)
            other = "spent" if end == "kept" else "kept"
            self.check(True, riddle, order, end, filling, log)
            self.check(False, riddle, order, other, filling, log)

    def test_each_beginning_of_a_run_is_a_spent_one(self):
        for riddle, table, order in some_runs(45, 8, 2)[::4]:
            log = plain_run(riddle, table, order)[2]
            for many in range(len(log)):
                taken = plain_taken(riddle, table, log[:many])
                filling = tuple(draws[-1] for draws in taken)
                self.check(True, riddle, order, "spent", filling, log[:many])
                self.check(False, riddle, order, "kept", filling, log[:many])

    def test_runs_changed_a_little(self):
        rng = chance(46)
        told = []
        for riddle, table, order in some_runs(47, 8, 2):
            end, filling, log = plain_run(riddle, table, order)
            for other in changed_logs(rng, riddle, log):
                expected = as_run(riddle, order, end, filling, other)
                self.check(expected, riddle, order, end, filling, other)
                told.append(expected)
            turned = order[::-1]
            self.check(as_run(riddle, turned, end, filling, log), riddle, turned, end, filling, log)
            moved = tuple(rng.randrange(riddle[1]) for _ in filling)
            for one in ("kept", "spent"):
                self.check(as_run(riddle, order, one, moved, log), riddle, order, one, moved, log)
        self.assertGreater(told.count(True), 50)
        self.assertGreater(told.count(False), 50)


def changed_logs(rng, riddle, log):
    """The log with a step left out, doubled, exchanged with the next one, or changed."""
    if not log:
        return []
    at = rng.randrange(len(log))
    wish, row = log[at]
    another = rng.randrange(len(riddle[2]))
    told = [log[:at] + log[at + 1:], log[:at + 1] + log[at:], log[:at] + log[at:at + 2][::-1] + log[at + 2:]]
    for pair in ((another, row), (wish, rng.choice(riddle[2][wish][1])), (another, rng.choice(riddle[2][another][1]))):
        told.append(log[:at] + [pair] + log[at + 1:])
    return told


class AllTables(unittest.TestCase):
    """Small riddles: what some table's run tells is a run, and nothing else."""

    RIDDLES = [
        (1, 2, (NOUGHT,)),
        (1, 3, (((0,), ((0,), (2,))), NOUGHT)),
        (2, 2, (((0, 1), ((0, 0), (1, 1))), ((1,), ((0,),)))),
        (2, 2, (((0,), ((1,),)), ((0, 1), ((0, 1),)))),
    ]

    def told_by_tables(self, riddle, order):
        """All that runs of at most two mendings tell: three draws for each place are enough."""
        rows = [list(draws) for k in (1, 2, 3) for draws in itertools.product(range(riddle[1]), repeat=k)]
        told = set()
        for table in itertools.product(rows, repeat=riddle[0]):
            end, filling, log = plain_run(riddle, list(table), order)
            told.add((end, filling, tuple(log)))
        return told

    def pairs(self, riddle):
        """Right pairs and wrong ones of this riddle's hues."""
        hues = [row for k in range(3) for row in itertools.product(range(riddle[1]), repeat=k)]
        return [(wish, row) for wish in range(-1, len(riddle[2]) + 1) for row in hues]

    def test_just_these_are_runs(self):
        for riddle in self.RIDDLES:
            pairs = self.pairs(riddle)
            logs = [list(log) for k in range(3) for log in itertools.product(pairs, repeat=k)]
            fillings = list(itertools.product(range(riddle[1]), repeat=riddle[0]))
            for order in itertools.permutations(range(len(riddle[2]))):
                told = self.told_by_tables(riddle, order)
                for end, filling, log in itertools.product(("kept", "spent"), fillings, logs):
                    expected = (end, filling, tuple(log)) in told
                    self.assertIs(is_run(riddle, order, end, filling, log), expected, (riddle, order, end, filling, log))


class OneFillingAndLog(unittest.TestCase):
    def test_unlike_draws_never_have_one_filling_and_log(self):
        riddle = (2, 2, (((0, 1), ((0, 0), (1, 1))), ((1,), ((0,),))))
        rows = [list(draws) for draws in itertools.product(range(2), repeat=4)]
        for order in ((0, 1), (1, 0)):
            seen = {}
            for table in itertools.product(rows, repeat=2):
                end, filling, log = plain_run(riddle, list(table), order)
                taken = told_back(riddle, filling, log)
                self.assertEqual(taken, plain_taken(riddle, table, log))
                self.assertEqual(seen.setdefault((filling, tuple(log)), taken), taken)


if __name__ == "__main__":
    unittest.main()
