"""Weights that show a riddle soon kept: point 9."""

import copy
import itertools
import unittest
from fractions import Fraction

from redraw import weights
from redraw.chances import mean
from redraw.riddles import counts
from redraw.weights import least_a, least_kept, most_mended, shows_soon, weights_of
from samples import SIZES, chance, is_fraction, pair_of, plain_clash, some_riddles

HALF = (1, 2)
NOUGHT = ((0,), ((0,),))
BOTH = ((0, 1), ((0, 0),))
ALL_THREE = ((0, 1, 2), ((0, 0, 0),))
PAIR = (3, 2, (BOTH, ((1, 2), ((0, 0),))))
ROWS = tuple(itertools.product(range(4), repeat=3))
HUGE = 10 ** 59


def wish_of(number):
    """A wish of so many of 64 rows."""
    return (3, 4, (((0, 1, 2), ROWS[:number]),))


def plain_shows(riddle, told):
    many, hues, wishes = riddle
    for one, (places, rows) in enumerate(wishes):
        bound = Fraction(*told[one])
        for other in range(len(wishes)):
            if other != one and plain_clash(riddle, one, other):
                bound *= 1 - Fraction(*told[other])
        if Fraction(len(rows), hues ** len(places)) > bound:
            return False
    return True


def plain_least(riddle):
    number = len(riddle[2])
    return next((a for a in range(1, 64) if plain_shows(riddle, [(a, 64)] * number)), None)


def some_weights(rng, riddle, most):
    told = []
    for _ in riddle[2]:
        below = rng.randint(2, most)
        told.append(pair_of(Fraction(rng.randint(1, below - 1), below)))
    return told


class ShowsSoon(unittest.TestCase):
    def test_without_wishes(self):
        for many, hues in SIZES:
            self.assertIs(shows_soon((many, hues, ()), []), True)

    def test_just_at_the_edge(self):
        riddle = (2, 2, (BOTH,))
        self.assertIs(shows_soon(riddle, [(1, 4)]), True)
        self.assertIs(shows_soon(riddle, [(HUGE, 4 * HUGE - 1)]), True)
        self.assertIs(shows_soon(riddle, [(HUGE, 4 * HUGE + 1)]), False)
        self.assertIs(shows_soon(riddle, [(15, 64)]), False)
        self.assertIs(shows_soon(riddle, [(63, 64)]), True)

    def test_the_edge_of_two_that_clash(self):
        self.assertIs(shows_soon(PAIR, [HALF, HALF]), True)
        for one, other in [((31, 64), (33, 64)), ((33, 64), (31, 64)), ((33, 64), (33, 64)), ((31, 64), (31, 64)),
                           (HALF, (HUGE, 2 * HUGE - 1)), (HALF, (HUGE, 2 * HUGE + 1))]:
            self.assertIs(shows_soon(PAIR, [one, other]), False, (one, other))

    def test_wishes_that_do_not_clash_count_for_nothing(self):
        riddle = (3, 2, (((0,), ((0,),)), ((1, 2), ((0, 0),))))
        self.assertIs(shows_soon(riddle, [HALF, (1, 4)]), True)
        self.assertIs(shows_soon(riddle, [HALF, (63, 64)]), True)
        self.assertIs(shows_soon(riddle, [(63, 64), (1, 4)]), True)
        self.assertIs(shows_soon(riddle, [HALF, (1, 5)]), False)
        self.assertIs(shows_soon(riddle, [(1, 3), (1, 4)]), False)

    def test_each_wish_has_its_own_weight(self):
        riddle = (2, 2, (NOUGHT, BOTH))
        self.assertIs(shows_soon((3, 2, (ALL_THREE, BOTH)), [(1, 4), HALF]), True)
        self.assertIs(shows_soon((3, 2, (ALL_THREE, BOTH)), [HALF, (1, 4)]), False)
        self.assertIs(shows_soon((3, 2, (BOTH, ALL_THREE)), [HALF, (1, 4)]), True)
        self.assertIs(shows_soon((3, 2, (BOTH, ALL_THREE)), [(1, 4), HALF]), False)
        self.assertIs(shows_soon(riddle, [HALF, HALF]), False)

    def test_all_rows_are_never_shown(self):
        for top in (1, 62, 63):
            self.assertIs(shows_soon((1, 2, (((0,), ((0,), (1,))),)), [pair_of(Fraction(top, 64))]), False)
        self.assertIs(shows_soon((1, 2, (((0,), ((0,), (1,))),)), [(HUGE - 1, HUGE)]), False)

    def test_alike_wishes_clash(self):
        self.assertIs(shows_soon((2, 2, (BOTH,)), [HALF]), True)
        self.assertIs(shows_soon((2, 2, (BOTH, BOTH)), [HALF, HALF]), True)
        self.assertIs(shows_soon((2, 2, (BOTH, BOTH, BOTH)), [HALF, HALF, HALF]), False)

    def test_by_another_way(self):
        rng = chance(901)
        seen = {True: 0, False: 0}
        for riddle in some_riddles(902, 2):
            for most in (4, 9, 64, HUGE):
                told = some_weights(rng, riddle, most)
                found = shows_soon(riddle, told)
                self.assertIs(found, plain_shows(riddle, told), (riddle, told))
                seen[found] += 1
        self.assertGreater(min(seen.values()), 30)


class Least(unittest.TestCase):
    def test_without_wishes(self):
        for many, hues in SIZES:
            self.assertEqual(least_a((many, hues, ())), 1)
            self.assertEqual(weights_of((many, hues, ())), [])

    def test_one_wish_by_its_share(self):
        for number in range(1, 64):
            self.assertEqual(least_a(wish_of(number)), number)
            self.assertEqual(weights_of(wish_of(number)), [pair_of(Fraction(number, 64))])

    def test_a_wish_of_all_rows_has_none(self):
        self.assertIsNone(least_a(wish_of(64)))
        self.assertIsNone(weights_of(wish_of(64)))
        self.assertIsNone(least_a((1, 2, (((0,), ((0,), (1,))),))))

    def test_shares_between_two_of_64(self):
        self.assertEqual(least_a((1, 3, (NOUGHT,))), 22)
        self.assertEqual(weights_of((1, 3, (NOUGHT,))), [(11, 32)])
        self.assertEqual(least_a((3, 3, (ALL_THREE,))), 3)

    def test_two_that_clash(self):
        self.assertEqual(least_a(PAIR), 32)
        self.assertEqual(weights_of(PAIR), [HALF, HALF])
        self.assertEqual(weights_of((2, 2, (BOTH, BOTH))), [HALF, HALF])

    def test_none_shows_it(self):
        for riddle in [(2, 2, (BOTH,) * 3), (2, 2, (NOUGHT, BOTH)), (1, 2, (NOUGHT, NOUGHT)), (3, 2, (ALL_THREE,) * 4)]:
            self.assertIsNone(least_a(riddle))
            self.assertIsNone(weights_of(riddle))

    def test_some_of_eight_wishes(self):
        riddle = (4, 4, tuple((places, (row,)) for places in itertools.combinations(range(4), 3)
                              for row in ((0, 0, 0), (1, 1, 1))))
        self.assertEqual(least_a(riddle), 2)
        self.assertEqual(weights_of(riddle), [(1, 32)] * 8)
        self.assertEqual(least_a((3, 2, (ALL_THREE,) * 3)), 13)
        self.assertEqual(weights_of((3, 2, (ALL_THREE,) * 3)), [(13, 64)] * 3)

    def test_by_another_way(self):
        nones = 0
        for riddle in some_riddles(903, 1) + some_riddles(904, 3):
            a = plain_least(riddle)
            nones += a is None
            self.assertEqual(least_a(riddle), a, riddle)
            told = None if a is None else [pair_of(Fraction(a, 64))] * len(riddle[2])
            self.assertEqual(weights_of(riddle), told, riddle)
        self.assertTrue(20 < nones < 240)

    def test_the_weights_show_it_and_lesser_ones_do_not(self):
        for riddle in some_riddles(905, 1):
            a = least_a(riddle)
            if a is not None:
                self.assertTrue(shows_soon(riddle, weights_of(riddle)))
                for less in range(1, a):
                    self.assertFalse(shows_soon(riddle, [pair_of(Fraction(less, 64))] * len(riddle[2])))
                self.assertTrue(all(is_fraction(one) for one in weights_of(riddle)))


class Bounds(unittest.TestCase):
    def test_without_weights(self):
        self.assertEqual(least_kept((3, 2, ()), []), (8, 1))
        self.assertEqual(least_kept((4, 4, ()), []), (256, 1))
        self.assertEqual(most_mended((4, 4, ()), []), (0, 1))

    def test_by_hand(self):
        self.assertEqual(least_kept(PAIR, [HALF, HALF]), (2, 1))
        self.assertEqual(most_mended(PAIR, [HALF, HALF]), (2, 1))
        self.assertEqual(least_kept(PAIR, [(1, 3), (1, 4)]), (4, 1))
        self.assertEqual(most_mended(PAIR, [(1, 3), (1, 4)]), (5, 6))
        self.assertEqual(least_kept((1, 3, (NOUGHT,)), [(11, 32)]), (63, 32))
        self.assertEqual(most_mended((1, 3, (NOUGHT,)), [(11, 32)]), (11, 21))
        self.assertEqual(least_kept(wish_of(63), [(63, 64)]), (1, 1))
        self.assertEqual(most_mended(wish_of(63), [(63, 64)]), (63, 1))

    def test_of_weights_that_do_not_show_it_too(self):
        self.assertEqual(least_kept(PAIR, [(1, 10), (9, 10)]), (18, 25))
        self.assertEqual(most_mended(PAIR, [(1, 10), (9, 10)]), (82, 9))

    def test_by_another_way(self):
        rng = chance(906)
        for riddle in some_riddles(907):
            told = some_weights(rng, riddle, rng.choice((4, 64, HUGE)))
            product = Fraction(riddle[1] ** riddle[0])
            total = Fraction(0)
            for weight in told:
                product *= 1 - Fraction(*weight)
                total += Fraction(*weight) / (1 - Fraction(*weight))
            self.assertEqual(least_kept(riddle, told), pair_of(product))
            self.assertEqual(most_mended(riddle, told), pair_of(total))
            self.assertTrue(is_fraction(least_kept(riddle, told)) and is_fraction(most_mended(riddle, told)))

    def held(self, riddle, told):
        self.assertLessEqual(Fraction(*least_kept(riddle, told)), counts(riddle)[0], riddle)
        if riddle[1] ** riddle[0] <= 32:
            self.assertLessEqual(Fraction(*mean(riddle)), Fraction(*most_mended(riddle, told)), riddle)

    def test_they_hold_of_the_least_weights(self):
        shown = 0
        for seed in range(908, 912):
            for riddle in some_riddles(seed, 1):
                told = weights_of(riddle)
                if told is not None:
                    shown += len(riddle[2]) > 0
                    self.held(riddle, told)
        self.assertGreater(shown, 80)

    def test_they_hold_of_all_weights_that_show_it(self):
        rng = chance(912)
        shown = 0
        for seed in range(913, 917):
            for riddle in some_riddles(seed, 2):
                told = some_weights(rng, riddle, 12)
                if shows_soon(riddle, told):
                    shown += len(riddle[2]) > 0
                    self.held(riddle, told)
        self.assertGreater(shown, 40)

    def test_one_wish_at_the_edge_meets_both(self):
        for number in range(1, 64):
            riddle = (3, 4, (((0, 1, 2), ROWS[:number]),))
            self.assertEqual(least_kept(riddle, weights_of(riddle)), (counts(riddle)[0], 1))
        for number in range(1, 8):
            riddle = (3, 2, (((0, 1, 2), tuple(itertools.product(range(2), repeat=3))[:number]),))
            self.assertEqual(most_mended(riddle, weights_of(riddle)), mean(riddle))


class NothingIsChanged(unittest.TestCase):
    def test_weights_stay_as_they_were(self):
        told = [(1, 3), (1, 4)]
        kept = copy.deepcopy(told)
        shows_soon(PAIR, told)
        least_kept(PAIR, told)
        most_mended(PAIR, told)
        self.assertEqual(told, kept)

    def test_told_lists_are_new_ones(self):
        one = weights_of(PAIR)
        other = weights_of(PAIR)
        self.assertIsNot(one, other)
        one.append("more")
        one[0] = None
        self.assertEqual(other, [HALF, HALF])
        self.assertEqual(weights_of(PAIR), [HALF, HALF])
        weights_of((1, 2, ())).append("more")
        self.assertEqual(weights_of((1, 2, ())), [])
        self.assertEqual(type(one), list)

    def test_all_stand_in_their_file(self):
        for name in ("shows_soon", "least_a", "weights_of", "least_kept", "most_mended"):
            self.assertEqual(getattr(weights, name).__module__, "redraw.weights")


if __name__ == "__main__":
    unittest.main()
