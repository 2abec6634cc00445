"""A filling kept while wishes come and go: point 13."""

import collections
import copy
import unittest

from redraw import keeper as module
from redraw.errors import NoName, NoTable, NoWish, Spent, Told, TooMany
from redraw.keeper import Keeper
from samples import ANYTHING, HUGE, SIZES, chance, plain_broken, some_wish

TABLE = [[0, 1, 2, 0], [0, 0, 1, 2], [2, 1, 0]]
NOUGHT = ((0,), ((0,),))

WRONG_TABLES = [
    [], [[0]], [[0], [1], [0]], [[0], []], [[], []], [[], [0]], [[0], [2]], [[0, 1, 2], [0]], [[0], [-1]], [[0], [HUGE]],
    [[-HUGE], [0]], [[0], [True]], [[False], [0]], [[0], [None]], [[0], ["0"]], [[0], [[0]]], [[0], [(0,)]],
    ([0], [0]), [(0,), (0,)], [[0], (0,)], [(0,), [0]], ((0,), (0,)), [[0], "0"], ["0", "0"], [0, 0], [[0], 0],
    [[0], None], [None, None], [[0], {}], [[0], {0: 0}], {0: [0], 1: [0]}, {}, "00", "[[0], [0]]", (), None, True, 2,
]
WRONG_SIZES = [
    (0, 2), (-1, 2), (7, 2), (HUGE, 2), (-HUGE, 2), (1, 1), (1, 0), (1, -2), (1, 5), (1, HUGE), (1, -HUGE), (6, 3), (5, 4),
    (6, 4), (True, 2), (False, 2), (1, True), (None, 2), (1, None), ("1", 2), (1, "2"), ((1,), 2), (1, [2]), ([], {}),
]
WRONG_NAMES = [
    "", " ", "a ", " a", "a b", "A", "aB", "Ab", "abcdefghi", "abcdefghij", "a" * 9, "a" * 4000, "a1", "1", "0a", "a_b", "a-b",
    "a\n", "\na", "a\tb", "\t", "\n", "~", "a~", "{", "`", "a{", "a`b", "/", ".", "'a'", "ABCDEFGH", "abcdefgH",
    None, True, False, 0, 1, HUGE, -HUGE, (), [], {}, ("a",), ["a"], {"a": 1}, ("a", "b"), [["a"]], ([],), {"a": ["b"]},
]
RIGHT_NAMES = ["a", "z", "az", "abcdefgh", "zzzzzzzz", "mend", "wish", "names", "self", "none"]
WRONG_WISHES = [
    ((), ((0,),)), ((), ((),)), ((0, 1, 2, 3), ((0, 0, 0, 0),)), ((1, 0), ((0, 0),)), ((0, 0), ((0, 0),)), ((3,), ((0,),)),
    ((-1,), ((0,),)), ((HUGE,), ((0,),)), ((True,), ((0,),)), ((False,), ((0,),)), ([0], ((0,),)), ("0", ((0,),)),
    (0, ((0,),)), (None, ((0,),)), ((None,), ((0,),)), ({0: 0}, ((0,),)), (([],), ((0,),)),
    ((0,), ()), ((0,), ((),)), ((0,), ((0, 0),)), ((0, 1), ((0,),)), ((0,), ((3,),)), ((0,), ((-1,),)), ((0,), ((HUGE,),)),
    ((0,), ((0,), (0,))), ((0,), ((1,), (0,))), ((0,), ((True,),)), ((0,), ((False,),)), ((0,), [(0,)]), ((0,), ([0],)),
    ((0,), (0,)), ((0,), 0), ((0,), None), ((0,), "0"), ((0,), ("0",)), ((0,), {(0,): 0}), ((0,), {}), ((0,), (({},),)),
    ((0, 1), ((0, 1), (0, 0))), ((0, 1), ((0, 0), (0, 0))), ((0, 1), ((0, 0), (1,))), (None, None), ([], []), ({}, {}),
]


class PlainKeeper:
    """A keeper in another way: draws are taken off copies, and a spent call is gone on a copy of all."""

    def __init__(self, many, hues, table):
        self.riddle = many, hues
        self.left = copy.deepcopy(table)
        self.hues = [draws.pop(0) for draws in self.left]
        self.gone = [0] * many
        self.told = []

    def broken(self):
        pairs = sorted(self.told)
        return [pairs[at] for at in plain_broken(self.riddle + ([wish for _, wish in pairs],), self.hues)]

    def wish(self, name, places, rows):
        later = copy.deepcopy(self)
        later.told.append((name, (places, rows)))
        names = []
        while later.broken():
            least, (mended, _) = later.broken()[0]
            for place in mended:
                if not later.left[place]:
                    return Spent
                later.hues[place] = later.left[place].pop(0)
                later.gone[place] += 1
            names.append(least)
        self.__dict__ = later.__dict__
        return names

    def forget(self, name):
        self.told = [(other, wish) for other, wish in self.told if other != name]

    def state(self):
        return tuple(self.hues), sorted(name for name, _ in self.told), self.gone


class Case(unittest.TestCase):
    def state(self, keeper):
        told = keeper.filling(), keeper.names(), keeper.taken()
        self.assertEqual([type(one) for one in told], [tuple, list, list])
        return told

    def check_refused(self, refusal, function, *arguments):
        with self.assertRaises(refusal) as caught:
            function(*arguments)
        self.assertIs(type(caught.exception), refusal, arguments)

    def check_refused_by(self, keeper, refusal, function, *arguments):
        ahead = self.state(keeper)
        handed = repr(arguments)
        self.check_refused(refusal, function, *arguments)
        self.assertEqual(self.state(keeper), ahead)
        self.assertEqual(repr(arguments), handed)


class Begun(Case):
    def test_all_sizes(self):
        for many, hues in SIZES:
            table = [[place % hues, 0] for place in range(many)]
            first = tuple(place % hues for place in range(many))
            self.assertEqual(self.state(Keeper(many, hues, table)), (first, [], [0] * many))

    def test_one_draw_a_place(self):
        self.assertEqual(self.state(Keeper(1, 2, [[1]])), ((1,), [], [0]))
        self.assertEqual(self.state(Keeper(2, 4, [[3], [0]])), ((3, 0), [], [0, 0]))

    def test_wrong_tables(self):
        for table in WRONG_TABLES:
            ahead = repr(table)
            self.check_refused(NoTable, Keeper, 2, 2, table)
            self.assertEqual(repr(table), ahead)

    def test_wrong_sizes(self):
        for many, hues in WRONG_SIZES:
            length = many if type(many) is int and 0 <= many < 9 else 1
            self.check_refused(NoTable, Keeper, many, hues, [[0] for _ in range(length)])

    def test_sizes_that_python_finds_equal_to_numbers(self):
        self.check_refused(NoTable, Keeper, True, 2, [[0]])
        self.assertEqual(Keeper(1, 2, [[0]]).filling(), (0,))

    def test_of_anything(self):
        for thing in ANYTHING:
            self.check_refused(NoTable, Keeper, 3, 2, thing)
            self.check_refused(NoTable, Keeper, thing, 2, [[0], [0], [0]])
            self.check_refused(NoTable, Keeper, thing, thing, thing)
            if thing != 2:
                self.check_refused(NoTable, Keeper, 3, thing, [[0], [0], [0]])
            if thing != [0]:
                self.check_refused(NoTable, Keeper, 2, 2, [[0], thing])
            if type(thing) is bool or thing not in (0, 1):
                self.check_refused(NoTable, Keeper, 2, 2, [[0, thing], [0]])

    def test_a_table_too_short_or_too_long(self):
        for many in range(1, 7):
            for length in range(9):
                table = [[0]] * length
                if length == many:
                    self.assertEqual(Keeper(many, 2, table).filling(), (0,) * many)
                else:
                    self.check_refused(NoTable, Keeper, many, 2, table)

    def test_hues_near_the_edge(self):
        for hues in (2, 3, 4):
            self.assertEqual(Keeper(1, hues, [[hues - 1, 0]]).filling(), (hues - 1,))
            for wrong in (hues, hues + 1, -1):
                self.check_refused(NoTable, Keeper, 1, hues, [[wrong]])
                self.check_refused(NoTable, Keeper, 2, hues, [[0], [0, 1, wrong]])


class ByHand(Case):
    def test_a_wish_that_is_kept_takes_no_draw(self):
        keeper = Keeper(3, 3, TABLE)
        self.assertEqual(keeper.wish("a", (0,), ((1,),)), [])
        self.assertEqual(self.state(keeper), ((0, 0, 2), ["a"], [0, 0, 0]))

    def test_wishes_come_and_go(self):
        keeper = Keeper(3, 3, TABLE)
        self.assertEqual(keeper.wish("m", (1,), ((0,),)), ["m", "m"])
        self.assertEqual(self.state(keeper), ((0, 1, 2), ["m"], [0, 2, 0]))
        self.assertEqual(keeper.wish("b", (0, 2), ((0, 2), (1, 1))), ["b", "b"])
        self.assertEqual(self.state(keeper), ((2, 1, 0), ["b", "m"], [2, 2, 2]))
        self.assertEqual(keeper.wish("c", (0, 1, 2), ((2, 2, 0),)), [])
        self.assertEqual(self.state(keeper), ((2, 1, 0), ["b", "c", "m"], [2, 2, 2]))
        self.assertIsNone(keeper.forget("b"))
        self.assertEqual(self.state(keeper), ((2, 1, 0), ["c", "m"], [2, 2, 2]))
        # Behind a mending of a wish c is broken, and place 2 has no draw left.
        self.check_refused_by(keeper, Spent, keeper.wish, "a", (1,), ((1,),))
        self.assertIsNone(keeper.forget("c"))
        self.assertEqual(keeper.wish("a", (1,), ((1,),)), ["a"])
        self.assertEqual(self.state(keeper), ((2, 2, 0), ["a", "m"], [2, 3, 2]))
        self.assertEqual(keeper.wish("d", (0,), ((2,),)), ["d"])
        self.assertEqual(self.state(keeper), ((0, 2, 0), ["a", "d", "m"], [3, 3, 2]))
        for name, place, hue in [("e", 0, 0), ("e", 1, 2), ("e", 2, 0)]:
            self.check_refused_by(keeper, Spent, keeper.wish, name, (place,), ((hue,),))

    def test_a_mending_that_breaks_another_wish(self):
        keeper = Keeper(2, 2, [[0, 1, 0, 1], [1, 0, 0, 1]])
        self.assertEqual(keeper.wish("both", (0, 1), ((1, 1),)), [])
        self.assertEqual(keeper.wish("one", (0,), ((0,),)), ["one", "both", "one"])
        self.assertEqual(self.state(keeper), ((1, 0), ["both", "one"], [3, 1]))

    def test_the_least_name_as_sorted_is_mended_first(self):
        # The first mending of the second wish breaks both.
        firsts = [("a", "b"), ("aa", "b"), ("a", "aa"), ("ab", "b"), ("y", "z"), ("azzzzzzz", "b")]
        for less, more in firsts:
            keeper = Keeper(2, 2, [[1, 0, 1, 1], [1, 1, 0, 0]])
            self.assertEqual(keeper.wish(less, (0,), ((0,),)), [])
            self.assertEqual(keeper.wish(more, (0, 1), ((0, 1), (1, 1))), [more, less, more])
            self.assertEqual(self.state(keeper), ((1, 0), [less, more], [3, 2]))
            keeper = Keeper(2, 2, [[1, 0, 1, 1], [1, 1, 0, 0]])
            self.assertEqual(keeper.wish(more, (0,), ((0,),)), [])
            self.assertEqual(keeper.wish(less, (0, 1), ((0, 1), (1, 1))), [less, less])
            self.assertEqual(self.state(keeper), ((1, 0), [less, more], [2, 2]))

    def test_alike_wishes_by_unlike_names(self):
        keeper = Keeper(1, 2, [[0, 1, 1]])
        self.assertEqual(keeper.wish("b", *NOUGHT), ["b"])
        self.assertEqual(keeper.wish("a", *NOUGHT), [])
        self.assertIsNone(keeper.forget("b"))
        self.assertEqual(self.state(keeper), ((1,), ["a"], [1]))

    def test_a_name_taken_out_and_put_in_again(self):
        keeper = Keeper(1, 3, [[0, 1, 2, 0, 1]])
        self.assertEqual(keeper.wish("a", (0,), ((0,),)), ["a"])
        keeper.forget("a")
        self.assertEqual(self.state(keeper), ((1,), [], [1]))
        self.check_refused_by(keeper, NoName, keeper.forget, "a")
        self.assertEqual(keeper.wish("a", (0,), ((0,),)), [])
        keeper.forget("a")
        # The same name for another wish: the first one counts no more.
        self.assertEqual(keeper.wish("a", (0,), ((1,), (2,))), ["a", "a"])
        self.assertEqual(self.state(keeper), ((0,), ["a"], [3]))

    def test_a_wish_taken_out_is_mended_no_more(self):
        keeper = Keeper(2, 2, [[0, 1, 0], [0, 1, 0, 0]])
        self.assertEqual(keeper.wish("a", (0,), ((0,),)), ["a"])
        keeper.forget("a")
        self.assertEqual(keeper.wish("b", (0, 1), ((1, 0),)), ["b"])
        self.assertEqual(self.state(keeper), ((0, 1), ["b"], [2, 1]))

    def test_hundreds_of_mendings(self):
        keeper = Keeper(2, 2, [[0] * 900 + [1], [0] * 700 + [1] + [0] * 300 + [1]])
        self.assertEqual(keeper.wish("long", (1,), ((0,),)), ["long"] * 700)
        self.assertEqual(keeper.wish("a", (0,), ((0,),)), ["a"] * 900)
        self.assertEqual(self.state(keeper), ((1, 1), ["a", "long"], [900, 700]))
        keeper.forget("long")
        self.check_refused_by(keeper, Spent, keeper.wish, "both", (0, 1), ((1, 1),))
        self.assertEqual(keeper.wish("one", (1,), ((1,),)), ["one"])
        self.assertEqual(keeper.taken(), [900, 701])


class Refused(Case):
    def full(self):
        """A keeper with eight wishes, all kept."""
        keeper = Keeper(3, 3, TABLE)
        for name in "abcdefgh":
            self.assertEqual(keeper.wish(name, (0,), ((1,),)), [])
        return keeper

    def test_right_names(self):
        for name in RIGHT_NAMES:
            keeper = Keeper(3, 3, TABLE)
            self.assertEqual(keeper.wish(name, *NOUGHT), [name])
            self.assertEqual(keeper.names(), [name])
            self.assertIsNone(keeper.forget(name))
            self.assertEqual(keeper.names(), [])

    def test_one_to_eight_letters(self):
        for length in range(12):
            keeper = Keeper(3, 3, TABLE)
            if 1 <= length <= 8:
                self.assertEqual(keeper.wish("q" * length, *NOUGHT), ["q" * length])
            else:
                self.check_refused_by(keeper, NoName, keeper.wish, "q" * length, *NOUGHT)

    def test_each_sign(self):
        for number in list(range(32, 127)) + [9, 10]:
            for name in (chr(number), "a" + chr(number), chr(number) + "a"):
                keeper = Keeper(3, 3, TABLE)
                if chr(number) in "abcdefghijklmnopqrstuvwxyz":
                    self.assertEqual(keeper.wish(name, *NOUGHT), [name])
                else:
                    self.check_refused_by(keeper, NoName, keeper.wish, name, *NOUGHT)

    def test_what_is_no_name(self):
        keeper = Keeper(3, 3, TABLE)
        keeper.wish("a", (0,), ((1,),))
        for name in WRONG_NAMES + ANYTHING:
            self.check_refused_by(keeper, NoName, keeper.wish, name, *NOUGHT)
            self.check_refused_by(keeper, NoName, keeper.wish, name, None, [])
            self.check_refused_by(keeper, NoName, keeper.forget, name)

    def test_a_name_that_it_has(self):
        keeper = self.full()
        for name in "abcdefgh":
            self.check_refused_by(keeper, Told, keeper.wish, name, *NOUGHT)
            self.check_refused_by(keeper, Told, keeper.wish, name, (0,), ((1,),))

    def test_what_is_no_wish(self):
        keeper = Keeper(3, 3, TABLE)
        keeper.wish("a", (0,), ((1,),))
        for places, rows in WRONG_WISHES:
            self.check_refused_by(keeper, NoWish, keeper.wish, "b", places, rows)

    def test_what_is_no_wish_of_anything(self):
        keeper = Keeper(3, 3, TABLE)
        for thing in ANYTHING:
            self.check_refused_by(keeper, NoWish, keeper.wish, "b", thing, thing)
            if thing != (0,):
                self.check_refused_by(keeper, NoWish, keeper.wish, "b", thing, ((0,),))
            if thing != ((0,),):
                self.check_refused_by(keeper, NoWish, keeper.wish, "b", (0,), thing)

    def test_places_and_hues_of_the_keeper_itself(self):
        for many, hues in SIZES:
            keeper = Keeper(many, hues, [[0]] * many)
            self.assertEqual(keeper.wish("a", (many - 1,), ((hues - 1,),)), [])
            self.check_refused_by(keeper, NoWish, keeper.wish, "b", (many,), ((0,),))
            self.check_refused_by(keeper, NoWish, keeper.wish, "b", (0,), ((hues,),))

    def test_a_ninth_one(self):
        keeper = self.full()
        self.check_refused_by(keeper, TooMany, keeper.wish, "i", (0,), ((1,),))
        self.check_refused_by(keeper, TooMany, keeper.wish, "i", (0,), ((0,),))
        keeper.forget("c")
        self.assertEqual(keeper.wish("i", (0,), ((1,),)), [])
        self.assertEqual(keeper.names(), list("abdefghi"))
        self.check_refused_by(keeper, TooMany, keeper.wish, "c", (0,), ((1,),))

    def test_two_refusals_due_at_once(self):
        all_hues = ((0,), (1,), (2,))
        keeper = self.full()
        for name in ("A", None, [], "abcdefghi"):
            self.check_refused_by(keeper, NoName, keeper.wish, name, (9,), ((0,),))
            self.check_refused_by(keeper, NoName, keeper.wish, name, (0,), all_hues)
        self.check_refused_by(keeper, Told, keeper.wish, "a", (9,), ((0,),))
        self.check_refused_by(keeper, Told, keeper.wish, "a", None, {})
        self.check_refused_by(keeper, Told, keeper.wish, "a", (0,), all_hues)
        self.check_refused_by(keeper, NoWish, keeper.wish, "i", (9,), ((0,),))
        self.check_refused_by(keeper, NoWish, keeper.wish, "i", [], [])
        self.check_refused_by(keeper, TooMany, keeper.wish, "i", (0,), all_hues)
        keeper.forget("h")
        self.check_refused_by(keeper, Told, keeper.wish, "a", (0,), all_hues)
        self.check_refused_by(keeper, NoWish, keeper.wish, "i", (0,), all_hues + ((3,),))
        self.check_refused_by(keeper, Spent, keeper.wish, "i", (0,), all_hues)

    def test_spent(self):
        keeper = Keeper(1, 2, [[0]])
        self.check_refused_by(keeper, Spent, keeper.wish, "a", *NOUGHT)
        # The name is free as it was.
        self.check_refused_by(keeper, NoName, keeper.forget, "a")
        self.assertEqual(keeper.wish("a", (0,), ((1,),)), [])

    def test_spent_behind_many_mendings(self):
        keeper = Keeper(2, 2, [[0] * 300, [1, 0, 0]])
        self.check_refused_by(keeper, Spent, keeper.wish, "a", *NOUGHT)
        self.assertEqual(keeper.wish("b", (1,), ((1,),)), ["b"])
        self.check_refused_by(keeper, Spent, keeper.wish, "a", *NOUGHT)
        self.assertEqual(self.state(keeper), ((0, 0), ["b"], [0, 1]))

    def test_spent_in_the_midst_of_a_mending(self):
        # Place 0 has a next draw each time, the last of the places none the second time.
        for last in (1, 2):
            table = [[0, 0, 0, 1], [0, 0, 0, 1], [0, 0, 0, 1]]
            table[last] = [0, 0]
            keeper = Keeper(3, 2, table)
            self.check_refused_by(keeper, Spent, keeper.wish, "a", (0, last), ((0, 0),))
            self.check_refused_by(keeper, Spent, keeper.wish, "a", (0, 1, 2), ((0, 0, 0),))
            self.assertEqual(keeper.wish("a", *NOUGHT), ["a"] * 3)
            self.assertEqual(self.state(keeper)[2], [3, 0, 0])

    def test_spent_by_a_wish_put_in_earlier(self):
        keeper = Keeper(2, 2, [[1, 0, 1], [0, 0]])
        self.assertEqual(keeper.wish("old", (0, 1), ((0, 0),)), [])
        self.assertEqual(keeper.wish("b", (1,), ((1,),)), [])
        # Mending "new" breaks "old", whose mending breaks "new"; and then place 0 has no draw.
        self.check_refused_by(keeper, Spent, keeper.wish, "new", (0,), ((1,),))
        keeper.forget("old")
        self.assertEqual(keeper.wish("new", (0,), ((1,),)), ["new"])
        self.assertEqual(self.state(keeper), ((0, 0), ["b", "new"], [1, 0]))

    def test_names_that_it_has_not(self):
        keeper = self.full()
        for name in ("i", "aa", "ab", "z", "abcdefgh"):
            self.check_refused_by(keeper, NoName, keeper.forget, name)
        keeper.forget("a")
        self.check_refused_by(keeper, NoName, keeper.forget, "a")
        self.assertEqual(keeper.names(), list("bcdefgh"))


class OwnThings(Case):
    def test_the_table_is_a_copy(self):
        table = [[0, 1, 0, 1], [0, 0]]
        keeper = Keeper(2, 2, table)
        table[0][1] = 0
        table[0][0] = 1
        table[1].clear()
        table.append([0])
        self.assertEqual(self.state(keeper), ((0, 0), [], [0, 0]))
        table.clear()
        self.assertEqual(keeper.wish("a", *NOUGHT), ["a"])
        self.assertEqual(self.state(keeper), ((1, 0), ["a"], [1, 0]))

    def test_the_table_is_not_changed(self):
        table = [[0, 0, 1], [0, 1]]
        keeper = Keeper(2, 2, table)
        keeper.wish("a", *NOUGHT)
        self.check_refused_by(keeper, Spent, keeper.wish, "b", (0,), ((1,),))
        keeper.taken().append(1)
        self.assertEqual(table, [[0, 0, 1], [0, 1]])

    def test_one_list_for_all_places(self):
        draws = [0, 0, 1]
        keeper = Keeper(3, 2, [draws] * 3)
        self.assertEqual(keeper.wish("a", (0, 2), ((0, 0),)), ["a", "a"])
        self.assertEqual(self.state(keeper), ((1, 0, 1), ["a"], [2, 0, 2]))
        self.assertEqual(draws, [0, 0, 1])

    def test_lists_told_are_the_askers_own(self):
        keeper = Keeper(2, 2, [[0, 0, 1], [0, 1]])
        told = keeper.wish("a", *NOUGHT)
        told.append("b")
        for one in (keeper.names(), keeper.taken()):
            one.append(7)
            one[0] = None
        self.assertEqual(self.state(keeper), ((1, 0), ["a"], [2, 0]))
        names, taken = keeper.names(), keeper.taken()
        self.assertIsNot(names, keeper.names())
        self.assertIsNot(taken, keeper.taken())
        self.assertEqual(keeper.wish("c", (1,), ((0,),)), ["c"])
        # What was told earlier does not follow.
        self.assertEqual((names, taken), (["a"], [2, 0]))
        self.assertEqual(self.state(keeper), ((1, 1), ["a", "c"], [2, 1]))

    def test_two_keepers_of_one_table(self):
        table = [[0, 1, 0, 1], [0, 1, 0]]
        one, other = Keeper(2, 2, table), Keeper(2, 2, table)
        self.assertEqual(one.wish("a", *NOUGHT), ["a"])
        self.assertEqual(self.state(other), ((0, 0), [], [0, 0]))
        self.assertEqual(other.wish("a", (1,), ((0,),)), ["a"])
        self.assertEqual(self.state(one), ((1, 0), ["a"], [1, 0]))
        one.forget("a")
        self.assertEqual(other.names(), ["a"])
        self.check_refused_by(other, Told, other.wish, "a", *NOUGHT)
        self.assertEqual(one.wish("a", (0,), ((1,),)), ["a"])
        self.assertEqual(self.state(one), ((0, 0), ["a"], [2, 0]))
        self.assertEqual(self.state(other), ((0, 1), ["a"], [0, 1]))


class ByAnotherWay(Case):
    def one_step(self, rng, keeper, plain, size):
        """Put a wish in or take one out, of both alike."""
        names = keeper.names()
        if names and rng.random() < 0.3:
            name = rng.choice(names)
            self.assertIsNone(keeper.forget(name))
            plain.forget(name)
            return "forget"
        name = rng.choice("abcdefghijkl") * rng.randint(1, 2)
        places, rows = some_wish(rng, *size, rng.randint(1, 3))
        expected = Told if name in names else TooMany if len(names) == 8 else plain.wish(name, places, rows)
        if type(expected) is type:
            self.check_refused_by(keeper, expected, keeper.wish, name, places, rows)
            return expected.__name__
        self.assertEqual(keeper.wish(name, places, rows), expected)
        return "mended" if expected else "kept"

    def test_wishes_that_come_and_go(self):
        rng = chance(1301)
        seen = collections.Counter()
        for size in SIZES * 10:
            table = [[rng.randrange(size[1]) for _ in range(rng.randint(1, 60))] for _ in range(size[0])]
            keeper, plain = Keeper(*size, table), PlainKeeper(*size, table)
            table.clear()
            for _ in range(30):
                seen[self.one_step(rng, keeper, plain, size)] += 1
                self.assertEqual(self.state(keeper), plain.state())
                self.assertEqual(plain.broken(), [])
        for way in ("forget", "Told", "TooMany", "Spent", "mended", "kept"):
            self.assertGreater(seen[way], 30, way)


class Interface(unittest.TestCase):
    def test_it_stands_in_its_file(self):
        self.assertEqual(module.Keeper.__module__, "redraw.keeper")
        for name in ("wish", "names", "taken", "forget", "filling"):
            self.assertIn(name, vars(Keeper))


if __name__ == "__main__":
    unittest.main()
