"""How likely all wishes are kept soon, and the mean of mendings: point 8."""

import copy
import itertools
import unittest
from fractions import Fraction

from redraw import chances
from redraw.chances import chance, mean
from redraw.errors import TooMany
from samples import (
    SIZES, all_fillings, is_fraction, pair_of, plain_broken, plain_mended, plain_run, some_riddle, some_riddles,
)
from samples import chance as seeded

NOUGHT = ((0,), ((0,),))
UNLIKE = ((0, 1), ((0, 0), (1, 1)))
EACH = ((0,), ((0,), (1,)))
CHAIN = (4, 2, (((0, 1), ((0, 0),)), ((1, 2), ((0, 0),)), ((2, 3), ((0, 0),))))
# Wish i is broken where both ends of a ring's edges i and i + 1 point to the corner between.
RING = (5, 2, tuple(
    (tuple(sorted((k, (k + 1) % 5))), ((0, 1),) if k < 4 else ((1, 0),)) for k in range(5)
))
SMALL = [(many, hues) for many, hues in SIZES if hues ** many <= 32]
GREAT = [(many, hues) for many, hues in SIZES if hues ** many > 32]


def by_all_tables(riddle, most):
    """The part of all tables of enough draws by which all are kept in so many mendings."""
    many, hues, wishes = riddle
    order = tuple(range(len(wishes)))
    rows = list(itertools.product(range(hues), repeat=most + 1))
    kept = 0
    for table in itertools.product(rows, repeat=many):
        end, _, log = plain_run(riddle, table, order)
        kept += end == "kept" and len(log) <= most
    return pair_of(Fraction(kept, len(rows) ** many))


def by_going_on(riddle, most):
    """The chances after 0 to most mendings, by the chances from each filling."""
    fillings = all_fillings(riddle)
    ways = {one: plain_mended(riddle, one) for one in fillings if plain_broken(riddle, one)}
    good = {one: Fraction(one not in ways) for one in fillings}
    told = [pair_of(sum(good.values()) / len(fillings))]
    for _ in range(most):
        good = {one: sum(good[to] for to in ways[one]) / len(ways[one]) if one in ways else good[one]
                for one in fillings}
        told.append(pair_of(sum(good.values()) / len(fillings)))
    return told


def lead_nowhere(riddle):
    """Whether some filling that breaks a wish leads by no draws to one that keeps all."""
    bad = {one: plain_mended(riddle, one) for one in all_fillings(riddle) if plain_broken(riddle, one)}
    found = True
    while found:
        found = [one for one in bad if any(to not in bad for to in bad[one])]
        for one in found:
            del bad[one]
    return bool(bad)


def plain_mean(riddle):
    """The mean by taking one filling after the other out of all ways."""
    if lead_nowhere(riddle):
        return None
    fillings = all_fillings(riddle)
    bad = [one for one in fillings if plain_broken(riddle, one)]
    ways, long = {}, {}
    for one in bad:
        after = plain_mended(riddle, one)
        ways[one] = {to: Fraction(1, len(after)) for to in after if to in bad}
        long[one] = Fraction(1)
    total = Fraction(0)
    comes = {one: Fraction(1, len(fillings)) for one in bad}
    for one in bad:
        stay = ways[one].pop(one, 0)
        out = {to: part / (1 - stay) for to, part in ways.pop(one).items()}
        long[one] /= 1 - stay
        total += comes[one] * long[one]
        for to, part in out.items():
            comes[to] += comes[one] * part
        for other in ways:
            part = ways[other].pop(one, 0)
            long[other] += part * long[one]
            for to, more in out.items():
                ways[other][to] = ways[other].get(to, 0) + part * more
    return pair_of(total)


class ChanceByHand(unittest.TestCase):
    def test_no_wishes(self):
        for many, hues in SIZES:
            for most in range(13):
                self.assertEqual(chance((many, hues, ()), most), (1, 1))

    def test_one_wish_of_one_place(self):
        for most in range(13):
            self.assertEqual(chance((1, 2, (NOUGHT,)), most), (2 ** (most + 1) - 1, 2 ** (most + 1)))
            self.assertEqual(chance((4, 4, (NOUGHT,)), most), (4 ** (most + 1) - 1, 4 ** (most + 1)))

    def test_one_wish_of_three_places(self):
        rows = tuple(itertools.product(range(4), repeat=3))
        self.assertEqual(chance((3, 4, (((0, 1, 2), rows[1:]),)), 0), (1, 64))
        self.assertEqual(chance((3, 4, (((0, 1, 2), rows[1:]),)), 1), (127, 4096))
        self.assertEqual(chance((4, 4, (((1, 2, 3), rows[:16]),)), 2), (63, 64))

    def test_no_filling_keeps_all(self):
        for riddle in [(1, 2, (EACH,)), (2, 2, (NOUGHT, ((0,), ((1,),)))), (4, 3, (((1,), ((0,), (1,), (2,))),))]:
            for most in (0, 1, 5, 12):
                self.assertEqual(chance(riddle, most), (0, 1))

    def test_the_least_broken_wish_is_mended(self):
        self.assertEqual([chance((2, 2, (NOUGHT, UNLIKE)), most) for most in range(3)], [(1, 4), (7, 16), (37, 64)])
        self.assertEqual([chance((2, 2, (UNLIKE, NOUGHT)), most) for most in range(3)], [(1, 4), (3, 8), (15, 32)])

    def test_wishes_by_themselves_are_mended_one_by_one(self):
        riddle = (2, 2, (NOUGHT, ((1,), ((0,),))))
        self.assertEqual([chance(riddle, most) for most in range(4)], [(1, 4), (1, 2), (11, 16), (13, 16)])

    def test_alike_wishes_are_as_one(self):
        for most in range(13):
            told = chance((2, 2, (UNLIKE,)), most)
            self.assertEqual(chance((2, 2, (UNLIKE, UNLIKE)), most), told)
            self.assertEqual(chance((2, 2, (UNLIKE,) * 8), most), told)

    def test_places_without_wishes_count_for_nothing(self):
        for most in (0, 3, 12):
            self.assertEqual(chance((2, 2, (UNLIKE, NOUGHT)), most), chance((5, 2, (UNLIKE, NOUGHT)), most))


class ChanceByOtherWays(unittest.TestCase):
    def test_by_all_tables(self):
        rng = seeded(801)
        for many, hues, most in [(1, 2, 5), (1, 3, 4), (1, 4, 3), (2, 2, 3), (2, 3, 2), (2, 4, 1), (3, 2, 2), (4, 2, 1)]:
            for number in (1, 2, 3):
                riddle = some_riddle(rng, many, hues, number, 2)
                self.assertEqual(chance(riddle, most), by_all_tables(riddle, most), riddle)

    def test_by_going_on_from_each_filling(self):
        rng = seeded(802)
        for many, hues in SMALL:
            for number in (1, 2, 3, 5, 8):
                for most_rows in (1, 3):
                    riddle = some_riddle(rng, many, hues, number, most_rows)
                    self.assertEqual([chance(riddle, most) for most in range(13)], by_going_on(riddle, 12), riddle)

    def test_the_greatest_riddles(self):
        rng = seeded(803)
        for many, hues in GREAT:
            riddle = some_riddle(rng, many, hues, 8, 2)
            told = by_going_on(riddle, 12)
            self.assertEqual([chance(riddle, most) for most in (0, 1, 5, 12)], [told[k] for k in (0, 1, 5, 12)], riddle)

    def test_wide_wishes_of_the_greatest_riddle(self):
        row = ((0, 0, 0), (0, 1, 2), (3, 3, 3))
        wishes = tuple((places, row) for places in itertools.combinations(range(4), 3))
        self.assertEqual(chance((4, 4, wishes + wishes), 12), by_going_on((4, 4, wishes), 12)[12])


class ChancesAsAWhole(unittest.TestCase):
    def test_they_never_fall(self):
        for riddle in some_riddles(804, 3):
            told = [Fraction(*chance(riddle, most)) for most in (0, 1, 2, 3, 7, 11, 12)]
            self.assertEqual(told, sorted(told), riddle)
            self.assertTrue(0 <= told[0] <= told[-1] <= 1)

    def test_they_rise_where_some_filling_keeps_all(self):
        told = [Fraction(*chance(CHAIN, most)) for most in range(13)]
        self.assertTrue(all(one < other for one, other in zip(told, told[1:])))

    def test_they_are_fractions(self):
        for riddle in some_riddles(805, 2):
            for most in (0, 4, 12):
                self.assertTrue(is_fraction(chance(riddle, most)), riddle)

    def test_after_no_mendings_it_is_the_part_that_keeps_all(self):
        for riddle in some_riddles(806, 4):
            fillings = all_fillings(riddle)
            kept = [one for one in fillings if not plain_broken(riddle, one)]
            self.assertEqual(chance(riddle, 0), pair_of(Fraction(len(kept), len(fillings))))

    def test_the_same_again(self):
        for most in range(13):
            self.assertEqual(chance(CHAIN, most), chance(copy.deepcopy(CHAIN), most))

    def test_more_than_twelve_is_no_error(self):
        self.assertEqual(chance((1, 2, (NOUGHT,)), 15), (65535, 65536))


class MeanByHand(unittest.TestCase):
    def test_no_wishes(self):
        for many, hues in SMALL:
            self.assertEqual(mean((many, hues, ())), (0, 1))

    def test_one_wish(self):
        self.assertEqual(mean((1, 2, (NOUGHT,))), (1, 1))
        self.assertEqual(mean((1, 3, (NOUGHT,))), (1, 2))
        self.assertEqual(mean((2, 4, (NOUGHT,))), (1, 3))
        self.assertEqual(mean((1, 4, (((0,), ((0,), (2,), (3,))),))), (3, 1))
        rows = tuple(itertools.product(range(3), repeat=3))
        self.assertEqual(mean((3, 3, (((0, 1, 2), rows[:26]),))), (26, 1))
        self.assertEqual(mean((3, 3, (((0, 1, 2), rows[:9]),))), (1, 2))

    def test_wishes_by_themselves_are_added(self):
        self.assertEqual(mean((2, 2, (NOUGHT, ((1,), ((0,),))))), (2, 1))
        self.assertEqual(mean((3, 3, (NOUGHT, ((1,), ((0,), (1,))), ((2,), ((2,),))))), (3, 1))

    def test_the_least_broken_wish_is_mended(self):
        self.assertEqual(mean((2, 2, (NOUGHT, UNLIKE))), (3, 1))
        self.assertEqual(mean((2, 2, (UNLIKE, NOUGHT))), (5, 1))

    def test_alike_wishes_are_as_one(self):
        self.assertEqual(mean((2, 2, (NOUGHT, NOUGHT, UNLIKE, UNLIKE, NOUGHT))), (3, 1))
        self.assertEqual(mean((5, 2, (UNLIKE,) * 4 + (NOUGHT,) * 4)), (5, 1))

    def test_a_ring(self):
        self.assertEqual(mean(RING), (10, 1))

    def test_none_where_no_filling_keeps_all(self):
        self.assertIsNone(mean((1, 2, (EACH,))))
        self.assertIsNone(mean((2, 2, (NOUGHT, ((0,), ((1,),))))))
        self.assertIsNone(mean((2, 2, (NOUGHT, UNLIKE, ((1,), ((1,),)), ((0, 1), ((1, 0),))))))
        rows = tuple(itertools.product(range(2), repeat=3))
        self.assertIsNone(mean((5, 2, (NOUGHT, ((1, 3, 4), rows)))))
        self.assertEqual(mean((5, 2, (((1, 3, 4), rows[1:]),))), (7, 1))


class MeanByOtherWays(unittest.TestCase):
    def test_by_taking_fillings_out(self):
        rng = seeded(807)
        nones = 0
        for many, hues in SMALL:
            for number in range(9):
                for most_rows in (1, 2, 4, None):
                    riddle = some_riddle(rng, many, hues, number, most_rows)
                    told = mean(riddle)
                    self.assertEqual(told, plain_mean(riddle), riddle)
                    nones += told is None
                    self.assertTrue(told is None or is_fraction(told), riddle)
        self.assertGreater(nones, 20)

    def test_it_is_the_sum_of_the_chances_that_more_come(self):
        for riddle in [(2, 2, (NOUGHT, UNLIKE)), (3, 3, (NOUGHT, UNLIKE)), CHAIN]:
            told = Fraction(*mean(riddle))
            part = sum(1 - Fraction(*chance(riddle, most)) for most in range(13))
            self.assertLess(part, told)
            self.assertLess(told, part + Fraction(*mean(riddle)) * 13 * (1 - Fraction(*chance(riddle, 12))))

    def test_the_greatest_ones(self):
        rng = seeded(808)
        told = []
        while len(told) < 6:
            riddle = some_riddle(rng, 5, 2, 8, 1)
            if plain_mean(riddle) is not None:
                told.append(mean(riddle))
                self.assertEqual(told[-1], plain_mean(riddle), riddle)


class MeanRefused(unittest.TestCase):
    def test_more_than_32_fillings(self):
        for many, hues in GREAT:
            for wishes in [(), (NOUGHT,), (((0,), tuple((hue,) for hue in range(hues))),)]:
                with self.assertRaises(TooMany) as caught:
                    mean((many, hues, wishes))
                self.assertIs(type(caught.exception), TooMany)

    def test_32_fillings_and_less_are_none_too_many(self):
        self.assertEqual(len(SMALL), 10)
        for many, hues in SMALL:
            self.assertEqual(mean((many, hues, (NOUGHT,))), pair_of(Fraction(1, hues - 1)))

    def test_chances_of_them_are_told(self):
        for many, hues in GREAT:
            self.assertEqual(chance((many, hues, (NOUGHT,)), 0), (hues - 1, hues))


class Interface(unittest.TestCase):
    def test_both_stand_in_their_file(self):
        for name in ("chance", "mean"):
            self.assertEqual(getattr(chances, name).__module__, "redraw.chances")


if __name__ == "__main__":
    unittest.main()
