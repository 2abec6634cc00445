"""Wishes that are apart, and how their runs end: point 11."""

import collections
import itertools
import unittest
from fractions import Fraction

from redraw import apart as module
from redraw.apart import apart
from redraw.chances import mean
from redraw.riddles import counts
from redraw.running import run
from samples import SIZES, chance, pair_of, plain_apart, some_apart, some_riddles, some_table

NOUGHT = ((0,), ((0,),))
ONE = ((0,), ((1,),))
BOTH = ((0, 1), ((0, 0),))


def sinks(edges, corners):
    """A hue for each edge tells to which end it points; a wish is broken where all of a corner's point to it."""
    wishes = []
    for corner in range(corners):
        places = tuple(place for place, ends in enumerate(edges) if corner in ends)
        wishes.append((places, (tuple(edges[place].index(corner) for place in places),)))
    return len(edges), 2, tuple(wishes)


RING = sinks([(0, 1), (1, 2), (2, 3), (3, 4), (4, 0)], 5)
SQUARE = sinks([(0, 1), (1, 2), (2, 3), (3, 0)], 4)
WHOLE = sinks([(0, 1), (0, 2), (0, 3), (1, 2), (1, 3), (2, 3)], 4)
TREE = sinks([(0, 1), (1, 2), (1, 3)], 4)


class ByHand(unittest.TestCase):
    def test_no_wishes_and_one(self):
        for many, hues in SIZES:
            self.assertEqual(apart((many, hues, ())), ("apart",))
            self.assertEqual(apart((many, hues, (NOUGHT,))), ("apart",))
        self.assertEqual(apart((1, 2, (((0,), ((0,), (1,))),))), ("apart",))

    def test_two_unlike_ones_alike_in_all(self):
        self.assertEqual(apart((1, 2, (NOUGHT, NOUGHT))), ("both", 0, 1, (0,)))
        self.assertEqual(apart((3, 4, (ONE, ONE, ONE))), ("both", 0, 1, (1, 0, 0)))

    def test_wishes_that_clash_and_are_never_broken_at_once(self):
        self.assertEqual(apart((1, 2, (NOUGHT, ONE))), ("apart",))
        self.assertEqual(apart((2, 2, (ONE, BOTH))), ("apart",))
        self.assertEqual(apart((3, 2, (((0, 1), ((0, 1),)), ((1, 2), ((0, 1),))))), ("apart",))
        for riddle in (RING, SQUARE, WHOLE, TREE):
            self.assertEqual(apart(riddle), ("apart",))

    def test_wishes_broken_at_once_that_do_not_clash(self):
        self.assertEqual(apart((2, 2, (NOUGHT, ((1,), ((0,),))))), ("apart",))
        self.assertEqual(apart((6, 2, tuple(((place,), ((0,), (1,))) for place in range(6)))), ("apart",))

    def test_both(self):
        self.assertEqual(apart((2, 2, (NOUGHT, BOTH))), ("both", 0, 1, (0, 0)))
        self.assertEqual(apart((3, 3, (((0, 1), ((2, 1),)), ((1, 2), ((0, 0), (1, 2)))))), ("both", 0, 1, (2, 1, 2)))

    def test_the_first_pair(self):
        # Wishes 1 and 2, and 0 and 3, are broken at once; the filling of the first two is less.
        riddle = (2, 2, (ONE, NOUGHT, BOTH, ((0, 1), ((1, 1),))))
        self.assertEqual(apart(riddle), ("both", 0, 3, (1, 1)))
        self.assertEqual(apart((2, 2, riddle[2][1:])), ("both", 0, 1, (0, 0)))
        self.assertEqual(apart((2, 2, (ONE, BOTH, NOUGHT, ((0, 1), ((0, 1),))))), ("both", 1, 2, (0, 0)))
        self.assertEqual(apart((2, 2, (ONE, ((0, 1), ((0, 1),)), BOTH, NOUGHT))), ("both", 1, 3, (0, 1)))

    def test_pairs_that_do_not_clash_are_passed_over(self):
        riddle = (3, 2, (NOUGHT, ((1,), ((0,),)), ((2,), ((0,),)), ((1, 2), ((0, 0),))))
        self.assertEqual(apart(riddle), ("both", 1, 3, (0, 0, 0)))

    def test_the_first_filling(self):
        riddle = (3, 3, (((1,), ((1,), (2,))), ((1, 2), ((1, 2), (2, 0)))))
        self.assertEqual(apart(riddle), ("both", 0, 1, (0, 1, 2)))

    def test_the_last_pair_and_the_last_filling(self):
        wishes = tuple(((place,), ((3,),)) for place in range(3)) + (((3,), ((3,),)), ((0, 1, 3), ((2, 2, 3),)))
        self.assertEqual(apart((4, 4, wishes)), ("both", 3, 4, (2, 2, 0, 3)))
        top = ((0, 1, 2), ((3, 3, 3),))
        self.assertEqual(apart((4, 4, (top, ((3,), ((3,),)), ((1, 2, 3), ((3, 3, 3),))))), ("both", 0, 2, (3, 3, 3, 3)))


class ByAnotherWay(unittest.TestCase):
    def test_of_many_riddles(self):
        seen = collections.Counter()
        for seed, most_rows in [(1101, None), (1102, 1), (1103, 2)]:
            for riddle in some_riddles(seed, most_rows):
                told = apart(riddle)
                self.assertEqual(told, plain_apart(riddle), riddle)
                self.assertIs(type(told), tuple)
                seen[told[0]] += 1
        self.assertGreater(min(seen["apart"], seen["both"]), 40)

    def test_of_riddles_whose_wishes_are_apart(self):
        for riddle in some_apart(1104, 40, 4):
            self.assertEqual(apart(riddle), ("apart",))


class RunsByAllOrders(unittest.TestCase):
    def ends(self, riddle, table):
        """What the runs by all orders have alike."""
        told = set()
        for order in itertools.permutations(range(len(riddle[2]))):
            end, filling, log = run(riddle, table, order)
            often = tuple(sorted(number for number, _ in log))
            told.add((end, filling, often) if end == "kept" else (end,))
        return told

    def test_they_end_alike(self):
        rng = chance(1105)
        seen = collections.Counter()
        for riddle in some_apart(1106, 60, 4) + [RING, SQUARE, WHOLE, TREE]:
            for most in (3, 6, 12):
                told = self.ends(riddle, some_table(rng, riddle, most))
                self.assertEqual(len(told), 1, riddle)
                seen[told.pop()[0]] += 1
        self.assertGreater(min(seen["kept"], seen["spent"]), 20)

    def test_elsewhere_they_may_not(self):
        riddle = (2, 2, (NOUGHT, BOTH))
        self.assertEqual(len(self.ends(riddle, [[0, 1, 0], [0, 1, 1]])), 2)


class MeanWhereApart(unittest.TestCase):
    def plainly(self, riddle):
        told = counts(riddle)
        return pair_of(Fraction(told[1], told[0]))

    def test_of_corners(self):
        self.assertEqual(mean(RING), (10, 1))
        self.assertEqual(self.plainly(RING), (10, 1))
        self.assertEqual(mean(SQUARE), self.plainly(SQUARE))
        # Three edges cannot spare four corners.
        self.assertIsNone(mean(TREE))

    def test_of_others(self):
        told = 0
        for riddle in some_apart(1107, 150, 5):
            if riddle[1] ** riddle[0] <= 32:
                if counts(riddle)[0]:
                    self.assertEqual(mean(riddle), self.plainly(riddle), riddle)
                    told += 1
                else:
                    self.assertIsNone(mean(riddle))
        self.assertGreater(told, 40)


class Interface(unittest.TestCase):
    def test_it_stands_in_its_file(self):
        self.assertEqual(module.apart.__module__, "redraw.apart")


if __name__ == "__main__":
    unittest.main()
