"""Of anything it is told whether it is a riddle: point 4."""

import copy
import itertools
import unittest

from redraw.riddles import is_riddle
from samples import SIZES, chance, some_riddles

HUGE = 10 ** 60 - 1
ONE = ((0,), ((0,),))
TWO = ((0, 1), ((0, 1), (1, 0)))

ALL_FOUR = tuple((hue,) for hue in range(4))
ALL_EIGHT = tuple(itertools.product(range(2), repeat=3))
ALL_SIXTY_FOUR = tuple(itertools.product(range(4), repeat=3))

RIDDLES = [
    (1, 2, ()),
    (1, 3, ()),
    (1, 4, ()),
    (6, 2, ()),
    (5, 3, ()),
    (4, 4, ()),
    (1, 2, (ONE,)),
    (1, 2, (ONE,) * 8),
    (2, 2, (TWO, ONE, TWO)),
    (1, 4, (((0,), ALL_FOUR),)),
    (6, 2, (((3, 4, 5), ALL_EIGHT), ((0, 2, 5), ((1, 1, 1),)))),
    (4, 4, (((1, 2, 3), ALL_SIXTY_FOUR),)),
    (4, 4, (((0, 3), ((3, 3),)), ((0, 1, 2), ((0, 3, 0), (3, 0, 0))))),
    (2, 2, (((1,), ((0,), (1,))), ((0, 1), ((0, 0),)))),
]

WRONG_SIZES = [
    (0, 2, ()), (-1, 2, ()), (7, 2, ()), (8, 2, ()), (HUGE, 2, ()), (-HUGE, 2, ()),
    (1, 1, ()), (1, 0, ()), (1, -2, ()), (1, 5, ()), (1, 256, ()), (2, 16, ()),
    (1, HUGE, ()), (1, -HUGE, ()), (HUGE, HUGE, ()), (HUGE, -HUGE, ()),
    (6, 3, ()), (6, 4, ()), (5, 4, ()),
    (True, 2, ()), (1, True, ()), (False, 2, ()), (True, True, ()),
    (None, 2, ()), (1, None, ()), ("1", 2, ()), (1, "2", ()), ((1,), 2, ()), (1, [2], ()),
]

WRONG_WISHES = [
    ((),), (((0,),),), (((0,), ((0,),), ()),), ([(0,), ((0,),)],), [((0,), ((0,),))], (ONE, None),
    (None,), ("wish",), (0,), (True,), ({},), ({(0,): ((0,),)},), ((ONE,),), ONE,
    None, True, False, 0, 1, "", "wishes", [], {}, [ONE], {0: ONE}, {ONE: ONE},
]

WRONG_PLACES = [
    (), (0, 1, 2, 3), (1, 0), (0, 0), (0, 2, 1), (0, 1, 1), (0, 0, 1), (2, 1, 0), (4,), (0, 4), (-1,), (-1, 0),
    (HUGE,), (-HUGE,), (True,), (False,), (0, True), (False, 1), (None,), ("0",), ((0,),), ([0],),
    [0], [0, 1], "0", "01", 0, 1, None, True, False, {}, {0: 0}, {0: 1, 1: 0}, {(0,): 0},
]

WRONG_ROWS = [
    (), ((),), ((0,),), ((0, 0, 0),), ((0, 0), (0,)), ((0, 0), (0, 0, 1)), ((0, 0), ()),
    ((0, 1), (0, 0)), ((0, 0), (0, 0)), ((0, 0), (1, 0), (0, 1)), ((0, 0), (1, 1), (1, 1)),
    ((0, 3),), ((3, 0),), ((0, -1),), ((-1, 0),), ((0, HUGE),), ((-HUGE, 0),),
    ((0, True),), ((False, 0),), ((False, True),), ((0, None),), ((0, "1"),), ((0, (1,)),), ((0, [1]),),
    ([0, 0],), ((0, 0), [0, 1]), [(0, 0)], [(0, 0), (0, 1)], ("00",), ("01", "10"), "00", (0, 0), (0,), (None,),
    ({},), ({0: 0, 1: 1},), {}, {(0, 0): 0}, {(0, 0): (0, 0), (0, 1): (0, 1)}, None, True, False, 0, 1, "rows",
]

ANYTHING = [
    None, True, False, 0, 1, 2, -1, HUGE, -HUGE, "", "0", "(1, 2, ())", "abc", "places 1 hues 2", "\t\n",
    "x" * 4000, (), [], {}, (1,), (1, 2), (1, 2, (), ()), (1, 2, (), 0), [1, 2, ()], [1, 2, []], (1, 2, []),
    {0: 1, 1: 2, 2: ()}, {1: 1, 2: 2, (): ()}, ((1, 2, ()),), [(1, 2, ())], ((), (), ()), ("", "", ""),
    (None, None, None), ([], [], []), ({}, {}, {}), ([[[[[[[[]]]]]]]],), {"a": {"b": {"c": {"d": [{}, ()]}}}},
    ((((((((),),),),),),),),
]


def rising(parts):
    return list(parts) == sorted(set(parts))


def whole_from(thing, numbers):
    return type(thing) is int and thing in numbers


def plain_wish(thing, many, hues):
    if type(thing) is not tuple or len(thing) != 2:
        return False
    places, rows = thing
    if type(places) is not tuple or len(places) not in (1, 2, 3):
        return False
    if not all(whole_from(place, range(many)) for place in places) or not rising(places):
        return False
    if type(rows) is not tuple or rows == ():
        return False
    for row in rows:
        if type(row) is not tuple or len(row) != len(places):
            return False
        if not all(whole_from(hue, range(hues)) for hue in row):
            return False
    return rising(rows)


def plain_riddle(thing):
    if type(thing) is not tuple or len(thing) != 3:
        return False
    many, hues, wishes = thing
    if type(many) is not int or type(hues) is not int or (many, hues) not in SIZES:
        return False
    if type(wishes) is not tuple or len(wishes) > 8:
        return False
    return all(plain_wish(wish, many, hues) for wish in wishes)


def near(thing):
    """Things that stand near one of a riddle's numbers or tuples."""
    if type(thing) is int:
        return [thing + 1, thing - 1, thing + HUGE - 9, thing - HUGE + 9, bool(thing), not thing, str(thing), (thing,)]
    told = [list(thing), str(thing), dict(enumerate(thing)), dict.fromkeys(thing), (thing,), thing[::-1]]
    told += [thing[1:], thing[:-1], thing[1:2] + thing[:1] + thing[2:], thing + thing[-1:], thing[:1] + thing]
    return told + [thing + (0,), thing + (None,), thing + ((),), (0,) + thing]


def changed(thing):
    """The thing with one of its parts, at any depth, in the place of which another stands."""
    told = near(thing) + [None, True, False, 0, "", "0", (), [], {}]
    if type(thing) is tuple:
        for at, part in enumerate(thing):
            told += [thing[:at] + (other,) + thing[at + 1:] for other in changed(part)]
    return told


class OfAnything(unittest.TestCase):
    def check(self, thing, expected):
        ahead = repr(thing)
        again = copy.deepcopy(thing)
        self.assertIs(is_riddle(thing), expected, ahead)
        self.assertEqual(repr(thing), ahead)
        self.assertEqual(thing, again)
        self.assertIs(is_riddle(thing), expected, ahead)

    def test_ordinary_riddles_and_edges(self):
        for riddle in RIDDLES:
            self.check(riddle, True)

    def test_all_sizes_with_none_to_eight_wishes(self):
        for seed in range(4):
            for riddle in some_riddles(seed):
                self.check(riddle, True)

    def test_every_size_near_the_edges(self):
        for many in range(-2, 10):
            for hues in range(-2, 8):
                self.check((many, hues, ()), (many, hues) in SIZES)

    def test_the_number_of_fillings_is_at_most_256(self):
        self.check((4, 4, ()), True)
        self.check((5, 3, ()), True)
        self.check((6, 2, ()), True)
        self.check((5, 4, ()), False)
        self.check((6, 3, ()), False)

    def test_wrong_sizes(self):
        for thing in WRONG_SIZES:
            self.check(thing, False)

    def test_eight_wishes_but_not_nine(self):
        for number in range(9):
            self.check((1, 2, (ONE,) * number), True)
        for number in (9, 10, 50):
            self.check((1, 2, (ONE,) * number), False)
        self.check((2, 2, (ONE, TWO) * 4), True)
        self.check((2, 2, (ONE, TWO) * 4 + (ONE,)), False)

    def test_wrong_wishes(self):
        for thing in WRONG_WISHES:
            self.check((4, 3, thing), False)

    def test_one_to_three_places(self):
        for length in range(7):
            wish = (tuple(range(length)), ((0,) * length,))
            self.check((6, 2, (wish,)), length in (1, 2, 3))

    def test_all_places_of_two(self):
        for places in itertools.product(range(-1, 5), repeat=2):
            right = 0 <= places[0] < places[1] < 4
            self.check((4, 2, ((places, ((0, 1),)),)), right)

    def test_wrong_places(self):
        for thing in WRONG_PLACES:
            length = len(thing) if isinstance(thing, (tuple, list, str, dict)) else 1
            self.check((4, 3, ((thing, ((0,) * length,)),)), False)
            self.check((4, 3, (ONE, (thing, ((0,) * length,)), TWO)), False)

    def test_one_row_and_all_rows(self):
        for many, hues in SIZES:
            for length in range(1, min(many, 3) + 1):
                rows = tuple(itertools.product(range(hues), repeat=length))
                places = tuple(range(length))
                self.check((many, hues, ((places, rows),)), True)
                for row in rows:
                    self.check((many, hues, ((places, (row,)),)), True)
                self.check((many, hues, ((places, rows[::-1]),)), False)
                self.check((many, hues, ((places, rows + rows[-1:]),)), False)
                self.check((many, hues, ((places, rows[:1] + rows),)), False)

    def test_wrong_rows(self):
        for thing in WRONG_ROWS:
            self.check((4, 3, (((0, 1), thing),)), False)
            self.check((4, 3, (TWO, ((1, 3), thing), TWO)), False)

    def test_a_wrong_wish_among_right_ones_at_any_number(self):
        wrong = ((0,), ((2,),))
        for at in range(8):
            wishes = [ONE] * 8
            wishes[at] = wrong
            self.check((1, 2, tuple(wishes)), False)

    def test_anything_else(self):
        for thing in ANYTHING:
            self.check(thing, False)

    def test_truths_are_no_numbers_though_python_finds_them_equal(self):
        self.check((1, 2, (((0,), ((0,), (1,))),)), True)
        self.check((True, 2, (((0,), ((0,), (1,))),)), False)
        self.check((1, 2, (((False,), ((0,), (1,))),)), False)
        self.check((1, 2, (((0,), ((False,), (1,))),)), False)
        self.check((1, 2, (((0,), ((0,), (True,))),)), False)
        self.check((2, 2, (((0, 1), ((0, 1),)),)), True)
        self.check((2, 2, (((0, True), ((0, 1),)),)), False)

    def test_right_riddles_changed_at_one_place_of_any_depth(self):
        for riddle in RIDDLES[:10] + RIDDLES[12:]:
            for thing in changed(riddle):
                self.check(thing, plain_riddle(thing))

    def test_right_riddles_changed_twice(self):
        rng = chance(11)
        for riddle in rng.sample(some_riddles(12, 4), 20):
            for thing in rng.sample(changed(riddle), 20):
                self.check(thing, plain_riddle(thing))
                if type(thing) is tuple and plain_riddle(thing):
                    for other in rng.sample(changed(thing), 20):
                        self.check(other, plain_riddle(other))


if __name__ == "__main__":
    unittest.main()
