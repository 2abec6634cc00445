"""The fewest mendings by any order, and floors: point 12."""

import collections
import copy
import itertools
import unittest

from redraw import fewest as module
from redraw.errors import NoEnd, TooMany
from redraw.fewest import are_floors, fewest, floors_of
from samples import HUGE, SIZES, chance, plain_broken, some_riddles, some_table

NOUGHT = ((0,), ((0,),))
ALWAYS = ((0,), ((0,), (1,)))
ONE_PLACE = (1, 2, (NOUGHT,))
# Mending wish 1 as the first leaves wish 2 broken without a next draw.
TRAP = (2, 2, (NOUGHT, ((0, 1), ((0, 0),)), ((1,), ((1,),))))
TRAP_TABLE = [[0, 1], [0, 1]]
# Mending wish 1 alone does; wish 0 as the first asks for two mendings of wish 2.
SHORTCUT = (2, 2, (((0, 1), ((0, 0),)), ((1,), ((0,),)), ((0,), ((1,),))))
SHORTCUT_TABLE = [[0, 1, 1, 0], [0, 1]]
FOUR = (4, 4, tuple(((place,), ((0,),)) for place in range(4)) * 2)


def leads_to(riddle, table, taken):
    """For each broken wish with next draws, how many draws are taken behind its mending."""
    told = {}
    for number in plain_broken(riddle, [table[place][k] for place, k in enumerate(taken)]):
        after = list(taken)
        for place in riddle[2][number][0]:
            after[place] += 1
        if all(after[place] < len(table[place]) for place in range(len(table))):
            told[number] = tuple(after)
    return told


def keeps_all(riddle, table, taken):
    return plain_broken(riddle, [table[place][k] for place, k in enumerate(taken)]) == []


def all_taken(table):
    return itertools.product(*[range(len(draws)) for draws in table])


def ways_to_go(riddle, table):
    """For each tuple how many mendings are at least needed from there, None where none do."""
    told = {}
    # A mending leads to a tuple that is greater as sorted.
    for taken in sorted(all_taken(table), reverse=True):
        if keeps_all(riddle, table, taken):
            told[taken] = 0
        else:
            after = [told[other] for other in leads_to(riddle, table, taken).values()]
            told[taken] = min([1 + number for number in after if number is not None], default=None)
    return told


def plain_fewest(riddle, table):
    return ways_to_go(riddle, table)[(0,) * len(table)]


def plain_floors(riddle, table, floors):
    for taken, floor in floors.items():
        if keeps_all(riddle, table, taken):
            if floor > 0:
                return False
        elif any(floor > 1 + floors.get(other, 0) for other in leads_to(riddle, table, taken).values()):
            return False
    return True


def can_be_mended(riddle, table, wishes):
    """Whether these wishes can be mended one by one till all are kept."""
    taken = (0,) * len(table)
    for number in wishes:
        if number not in leads_to(riddle, table, taken):
            return False
        taken = leads_to(riddle, table, taken)[number]
    return keeps_all(riddle, table, taken)


def small_tables(hues, many, most):
    lists = [list(draws) for length in range(1, most + 1) for draws in itertools.product(range(hues), repeat=length)]
    return [list(table) for table in itertools.product(lists, repeat=many)]


def some_cases(seed, most_rows):
    """(riddle, table) of all sizes, with tables of at most a few hundred tuples."""
    rng = chance(seed)
    told = []
    for riddle in some_riddles(seed + 1, most_rows):
        told.append((riddle, some_table(rng, riddle, {1: 30, 2: 15, 3: 6, 4: 4, 5: 3, 6: 3}[riddle[0]])))
    return told


class Case(unittest.TestCase):
    def check_fewest(self, riddle, table, number):
        ahead = copy.deepcopy((riddle, table))
        told = fewest(riddle, table)
        if number is None:
            self.assertIsNone(told)
        else:
            self.assertIs(type(told), list)
            self.assertTrue(all(type(wish) is int for wish in told))
            self.assertEqual(len(told), number)
            self.assertTrue(can_be_mended(riddle, table, told))
        self.assertEqual((riddle, table), ahead)

    def check_floors(self, riddle, table, number):
        ahead = copy.deepcopy((riddle, table))
        if number is None:
            self.check_refused(NoEnd, floors_of, riddle, table)
        else:
            told = floors_of(riddle, table)
            self.assertIs(type(told), dict)
            for taken, floor in told.items():
                self.assertIs(type(taken), tuple)
                self.assertEqual([type(beyond) for beyond in taken], [int] * len(table))
                self.assertTrue(all(0 <= beyond < len(draws) for beyond, draws in zip(taken, table)))
                self.assertIs(type(floor), int)
            self.assertTrue(plain_floors(riddle, table, told))
            self.assertEqual(told.get((0,) * len(table), 0), number)
            self.assertIs(are_floors(riddle, table, told), True)
        self.assertEqual((riddle, table), ahead)

    def check(self, riddle, table, number):
        self.check_fewest(riddle, table, number)
        self.check_floors(riddle, table, number)

    def check_refused(self, refusal, function, *arguments):
        with self.assertRaises(refusal) as caught:
            function(*arguments)
        self.assertIs(type(caught.exception), refusal)


class ByHand(Case):
    def test_of_one_place(self):
        self.check(ONE_PLACE, [[1]], 0)
        self.check(ONE_PLACE, [[1, 0, 0]], 0)
        self.check(ONE_PLACE, [[0, 1]], 1)
        self.check(ONE_PLACE, [[0, 0, 0, 1, 0]], 3)
        self.assertEqual(fewest(ONE_PLACE, [[0, 0, 0, 1, 0]]), [0, 0, 0])

    def test_the_only_choice_that_leads_to_it(self):
        self.assertEqual(fewest(TRAP, TRAP_TABLE), [0])
        self.check(TRAP, TRAP_TABLE, 1)

    def test_the_choice_by_fewer(self):
        self.assertEqual(fewest(SHORTCUT, SHORTCUT_TABLE), [1])
        self.check(SHORTCUT, SHORTCUT_TABLE, 1)
        self.assertEqual(fewest(SHORTCUT, [[0, 1, 1, 0], [0, 0, 1]]), [1, 1])
        self.check(SHORTCUT, [[0, 1, 1, 0], [0, 0]], None)

    def test_the_least_number_first_is_not_the_fewest(self):
        riddle = (2, 2, (((1,), ((0,),)), ((0, 1), ((0, 0),)), ((0,), ((0,),))))
        self.assertEqual(fewest(riddle, [[0, 1], [0, 1]]), [1])
        self.assertEqual(fewest(riddle, [[0, 1], [0, 0, 0, 1]]), [0, 0, 1])

    def test_a_way_that_fewer_mendings_lead_to_by_other_wishes(self):
        # Wishes 0 to 2 one by one take as many draws as wish 3 at once.
        riddle = (3, 2, tuple(((place,), ((0,),)) for place in range(3)) + (((0, 1, 2), ((0, 0, 0),)),))
        self.assertEqual(fewest(riddle, [[0, 1]] * 3), [3])
        self.assertEqual(fewest(riddle, [[0, 0, 0, 1]] * 3), [3, 3, 3])
        self.assertEqual(sorted(fewest(riddle, [[0, 1], [0, 0, 1], [1]])), [0, 1, 1])

    def test_a_wish_kept_now_is_not_mended(self):
        # Place 1 would get hue 1 by wish 1, but wish 1 is never broken.
        riddle = (2, 2, (((1,), ((0,),)), ((0, 1), ((1, 0),))))
        self.check(riddle, [[0, 0], [0, 0, 1]], 2)
        self.assertEqual(fewest(riddle, [[0, 0], [0, 0, 1]]), [0, 0])
        # One of wish 0 and wish 1 by turns, place 0 having the hue 1 behind wish 2 alone.
        self.check((2, 2, riddle[2] + (NOUGHT,)), [[0, 1, 0], [0, 0, 1]], 3)

    def test_no_choice_leads_to_it(self):
        for table in ([[0]], [[0, 0]], [[0, 0, 0, 0]]):
            self.check(ONE_PLACE, table, None)
        self.check((1, 2, (ALWAYS,)), [[0, 1, 0, 1, 1]], None)
        self.check(TRAP, [[0, 0], [0, 1]], None)
        self.check((2, 2, (((0, 1), ((0, 0),)),)), [[0, 1, 1, 1], [0]], None)
        self.check((2, 2, (((0, 1), ((0, 0),)),)), [[0, 1, 1, 1], [0, 0]], 1)

    def test_no_wishes(self):
        for many, hues in SIZES:
            for length in (1, 3):
                self.check((many, hues, ()), [[hues - 1] * length] * many, 0)
                self.assertEqual(fewest((many, hues, ()), [[0] * length] * many), [])

    def test_one_draw_a_place(self):
        for many, hues in SIZES:
            table = [[0] for _ in range(many)]
            self.check((many, hues, (((many - 1,), ((1,),)),)), table, 0)
            self.check((many, hues, (((many - 1,), ((0,),)),)), table, None)

    def test_one_list_for_all_places(self):
        draws = [0, 0, 1]
        table = [draws] * 3
        riddle = (3, 2, tuple(((place,), ((0,),)) for place in range(3)))
        self.check(riddle, table, 6)
        self.assertEqual(sorted(fewest(riddle, table)), [0, 0, 1, 1, 2, 2])
        self.check((3, 2, (((0, 1, 2), ((0, 0, 0),)),)), table, 2)
        self.assertEqual(draws, [0, 0, 1])

    def test_wishes_alike(self):
        self.check((1, 2, (NOUGHT,) * 8), [[0, 0, 1]], 2)
        self.assertTrue(all(number in range(8) for number in fewest((1, 2, (NOUGHT,) * 8), [[0, 0, 1]])))


class ByAnotherWay(Case):
    def test_all_tables_of_one_place(self):
        for wishes in [(), (NOUGHT,), (((0,), ((1,),)),), (ALWAYS,), (NOUGHT, ALWAYS), (NOUGHT, NOUGHT)]:
            for table in small_tables(2, 1, 5):
                self.check((1, 2, wishes), table, plain_fewest((1, 2, wishes), table))

    def test_all_small_tables_of_two_places(self):
        for riddle in (TRAP, SHORTCUT, (2, 2, (((1,), ((0,),)), ((0, 1), ((0, 1), (1, 0))), ((0,), ((0,),))))):
            for table in small_tables(2, 2, 3):
                self.check(riddle, table, plain_fewest(riddle, table))

    def test_of_many_riddles(self):
        seen = collections.Counter()
        for seed, most_rows in [(1201, None), (1203, 1), (1205, 2), (1207, 3), (1209, 2)]:
            for riddle, table in some_cases(seed, most_rows):
                number = plain_fewest(riddle, table)
                self.check(riddle, table, number)
                seen["none" if number is None else min(number, 3)] += 1
        self.assertGreater(min(seen["none"], seen[0], seen[1], seen[2], seen[3]), 20)


class Limits(Case):
    def test_products_of_just_5000_are_told(self):
        keep = (1, 2, (NOUGHT,))
        self.check(keep, [[0] * 4999 + [1]], 4999)
        self.check(keep, [[0] * 5000], None)
        self.check(keep, [[1] * 5000], 0)
        both = (2, 2, (((0, 1), ((0, 0),)), NOUGHT, ((1,), ((0,),))))
        self.check(both, [[0] * 49 + [1], [0] * 99 + [1]], 99)
        self.check(both, [[0] * 2499 + [1], [0, 0]], None)
        self.check(both, [[0], [0] * 5000], None)
        self.check((3, 2, both[2]), [[0] * 9 + [1], [0] * 19 + [1], [0] * 25], 19)
        self.check((4, 2, both[2]), [[0, 0, 1, 0], [0, 0, 0, 1, 0], [0] * 10, [1] * 25], 3)

    def test_long_tables_of_eight_wishes(self):
        self.check((1, 2, (NOUGHT,) * 8), [[0] * 4999 + [1]], 4999)
        self.check((2, 2, (NOUGHT, ((1,), ((0,),))) * 4), [[0] * 69 + [1], [0] * 70 + [1]], 139)
        self.check(FOUR, [[0] * 7 + [1] for _ in range(4)], 28)
        self.check(FOUR, [[0] * 8 for _ in range(4)], None)

    def test_six_places(self):
        wishes = tuple(((place,), ((0,),)) for place in range(6)) + (((0, 1, 2), ((0, 0, 0),)), ((3, 4, 5), ((0, 0, 0),)))
        self.check((6, 2, wishes), [[0, 0, 0, 1]] * 6, 6)
        self.check((6, 2, wishes), [[0, 0, 0, 0]] * 6, None)

    def test_more_are_refused(self):
        tables = [[[0] * 5001], [[1] * 5001], [[0] * 5000 + [1]], [[0] * 20000]]
        tables += [[[0] * 3, [0] * 1667], [[0] * 1667, [1] * 3], [[0] * 71, [1] * 71], [[0] * 5001, [0]]]
        tables += [[[0] * 18] * 3, [[0] * 10, [0] * 10, [0] * 51], [[0] * 9] * 4, [[0] * 6] * 5, [[0] * 5] * 6]
        tables += [[[1] * 200] * 6, [[0] * 41, [0], [0] * 2, [0] * 61, [0], [0]]]
        for table in tables:
            for wishes in [(), (NOUGHT,), (ALWAYS,), (((0,), ((1,),)),) * 8]:
                riddle = (len(table), 2, wishes)
                for function in (fewest, floors_of):
                    self.check_refused(TooMany, function, riddle, table)

    def test_a_product_near_the_limit(self):
        for one, other, refused in [(1666, 3, False), (1667, 3, True), (2500, 2, False), (2501, 2, True), (70, 71, False)]:
            riddle, table = (2, 2, ()), [[0] * one, [0] * other]
            if refused:
                self.check_refused(TooMany, fewest, riddle, table)
                self.check_refused(TooMany, floors_of, riddle, table)
            else:
                self.check(riddle, table, 0)

    def test_whether_a_dict_is_floors_is_never_refused(self):
        table = [[0] * 200 for _ in range(6)]
        riddle = (6, 2, tuple(((place,), ((0,),)) for place in range(6)))
        start = (0,) * 6
        self.assertIs(are_floors(riddle, table, {}), True)
        self.assertIs(are_floors(riddle, table, {start: 1}), True)
        self.assertIs(are_floors(riddle, table, {start: 2}), False)
        self.assertIs(are_floors(riddle, table, {(199,) * 6: HUGE}), True)
        self.assertIs(are_floors(ONE_PLACE, [[0] * 6000 + [1]], {(k,): 6000 - k for k in range(6001)}), True)
        self.assertIs(are_floors(ONE_PLACE, [[0] * 6000 + [1]], {(k,): 6001 - k for k in range(6001)}), False)
        self.assertIs(are_floors(ONE_PLACE, [[0] * 6001], {(k,): 6001 - k for k in range(6001)}), True)


class AreFloors(Case):
    def test_of_one_place(self):
        table = [[0, 0, 1]]
        right = [
            {}, {(0,): 2, (1,): 1, (2,): 0}, {(0,): 2, (1,): 1}, {(0,): 1}, {(0,): 0}, {(1,): 1}, {(2,): 0},
            {(0,): 1, (1,): 0, (2,): 0}, {(0,): 1, (1,): 1}, {(0,): 0, (1,): -1}, {(0,): -HUGE},
            {(0,): -HUGE, (1,): -HUGE, (2,): -HUGE}, {(0,): -4, (1,): -5}, {(0,): -9, (1,): -5}, {(1,): 0, (2,): -1},
            {(1,): -6, (2,): -7}, {(2,): -1}, {(2,): 0, (0,): 1},
        ]
        wrong = [
            {(0,): 3, (1,): 1, (2,): 0}, {(0,): 2, (1,): 2, (2,): 0}, {(0,): 2, (1,): 1, (2,): 1}, {(0,): 3, (1,): 2, (2,): 1},
            {(0,): 2}, {(0,): 2, (2,): 0}, {(1,): 2}, {(2,): 1}, {(2,): HUGE}, {(0,): HUGE}, {(0,): 1, (1,): -1},
            {(0,): -3, (1,): -5}, {(0,): HUGE, (1,): -5}, {(1,): 1, (2,): -1}, {(1,): -5, (2,): -7}, {(0,): 0, (2,): 2},
        ]
        for floors in right:
            self.assertIs(are_floors(ONE_PLACE, table, floors), True, floors)
        for floors in wrong:
            self.assertIs(are_floors(ONE_PLACE, table, floors), False, floors)

    def test_where_nothing_can_be_mended_any_number_is_one(self):
        for floor in (HUGE, 5, 1, 0, -1, -HUGE):
            self.assertIs(are_floors(ONE_PLACE, [[0]], {(0,): floor}), True)
            self.assertIs(are_floors(ONE_PLACE, [[0, 0]], {(1,): floor}), True)
            self.assertIs(are_floors(ONE_PLACE, [[0, 0]], {(0,): floor + 1, (1,): floor}), True)
            self.assertIs(are_floors(ONE_PLACE, [[0, 0]], {(0,): floor + 2, (1,): floor}), False)
            self.assertIs(are_floors(ONE_PLACE, [[1]], {(0,): floor}), floor <= 0)

    def test_each_broken_wish_counts_whose_places_have_next_draws(self):
        self.assertIs(are_floors(TRAP, TRAP_TABLE, {(0, 0): 1, (1, 0): 0, (1, 1): HUGE}), True)
        self.assertIs(are_floors(TRAP, TRAP_TABLE, {(0, 0): 2, (1, 0): 0, (1, 1): HUGE}), False)
        self.assertIs(are_floors(TRAP, TRAP_TABLE, {(0, 0): 1, (1, 1): -1}), False)
        self.assertIs(are_floors(TRAP, TRAP_TABLE, {(0, 0): 0, (1, 1): -1}), True)
        self.assertIs(are_floors(TRAP, TRAP_TABLE, {(0, 0): 1, (0, 1): -7}), True)
        # With one draw at place 1 wish 1 leads nowhere.
        self.assertIs(are_floors(TRAP, [[0, 1], [0]], {(0, 0): 1}), True)
        self.assertIs(are_floors(TRAP, [[0, 0], [0]], {(0, 0): 9, (1, 0): 8}), True)
        self.assertIs(are_floors(TRAP, [[0, 0], [0]], {(0, 0): 10, (1, 0): 8}), False)

    def test_tuples_to_which_no_mending_leads_count_too(self):
        riddle = (2, 2, (((0, 1), ((0, 0),)),))
        table = [[0, 0, 1], [0, 0, 1]]
        self.assertIs(are_floors(riddle, table, {(0, 0): 2, (1, 1): 1}), True)
        self.assertIs(are_floors(riddle, table, {(0, 0): 2, (1, 1): 1, (2, 0): 1}), False)
        self.assertIs(are_floors(riddle, table, {(0, 0): 2, (1, 1): 1, (2, 0): 0}), True)
        self.assertIs(are_floors(riddle, table, {(0, 0): 2, (1, 1): 1, (0, 1): 1}), True)
        self.assertIs(are_floors(riddle, table, {(0, 0): 2, (1, 1): 1, (0, 1): 2}), False)

    def test_tuples_that_the_table_has_not_are_no_floors(self):
        for taken in [(3,), (4,), (-1,), (HUGE,), (0, 0), ()]:
            self.assertIs(are_floors(ONE_PLACE, [[0, 0, 1]], {taken: 0}), False)
            self.assertIs(are_floors(ONE_PLACE, [[0, 0, 1]], {(0,): 0, taken: -1}), False)
        for taken in [(0, 2), (2, 0), (-1, 1), (1, -1), (1,), (1, 1, 1)]:
            self.assertIs(are_floors(TRAP, TRAP_TABLE, {taken: 0}), False)

    def test_told_floors_changed_by_one_number(self):
        rng = chance(1210)
        seen = collections.Counter()
        for riddle, table in some_cases(1211, 2)[::2] + [(TRAP, TRAP_TABLE), (SHORTCUT, SHORTCUT_TABLE)]:
            go = ways_to_go(riddle, table)
            floors = {taken: HUGE if number is None else number for taken, number in go.items()}
            self.assertIs(are_floors(riddle, table, floors), plain_floors(riddle, table, floors))
            for taken in rng.sample(list(floors), min(4, len(floors))):
                for number in (floors[taken] + 1, floors[taken] - 1, -1, HUGE, None):
                    other = dict(floors)
                    if number is None:
                        del other[taken]
                    else:
                        other[taken] = number
                    told = are_floors(riddle, table, other)
                    self.assertIs(told, plain_floors(riddle, table, other))
                    seen[told] += 1
        self.assertGreater(min(seen[True], seen[False]), 200)

    def test_of_some_dicts(self):
        rng = chance(1213)
        seen = collections.Counter()
        for riddle, table in some_cases(1215, 3):
            tuples = rng.sample(list(all_taken(table)), min(6, len(list(all_taken(table)))))
            for most in (0, 1, 2, 4):
                floors = {taken: rng.randint(-2, most) for taken in tuples}
                ahead = dict(floors)
                told = are_floors(riddle, table, floors)
                self.assertIs(told, plain_floors(riddle, table, floors))
                self.assertEqual(floors, ahead)
                seen[told] += 1
        self.assertGreater(min(seen[True], seen[False]), 100)

    def test_the_floor_of_noughts_is_at_most_the_fewest(self):
        for table in small_tables(2, 1, 4):
            number = plain_fewest(ONE_PLACE, table)
            for numbers in itertools.product((-1, 0, 1, 2, 3), repeat=len(table[0])):
                floors = {(k,): floor for k, floor in enumerate(numbers)}
                if number is not None and are_floors(ONE_PLACE, table, floors):
                    self.assertLessEqual(numbers[0], number)


class OwnLists(Case):
    def test_what_is_told_is_the_askers_own(self):
        table = [[0, 0, 1]]
        told = fewest(ONE_PLACE, table)
        told.append(7)
        self.assertEqual(fewest(ONE_PLACE, table), [0, 0])
        kept = fewest((1, 2, ()), table)
        kept.append(7)
        self.assertEqual(fewest((1, 2, ()), table), [])
        floors = floors_of(ONE_PLACE, table)
        floors.clear()
        floors[(0,)] = 9
        self.check_floors(ONE_PLACE, table, 2)
        self.assertEqual(table, [[0, 0, 1]])

    def test_refusals_change_nothing(self):
        for table in ([[0] * 5001], [[0, 0]]):
            ahead = copy.deepcopy(table)
            with self.assertRaises((TooMany, NoEnd)):
                floors_of(ONE_PLACE, table)
            self.assertEqual(table, ahead)

    def test_a_table_changed_between(self):
        table = [[0, 0, 1]]
        self.check(ONE_PLACE, table, 2)
        table[0][1] = 1
        self.check(ONE_PLACE, table, 1)


class Interface(unittest.TestCase):
    def test_it_stands_in_its_file(self):
        for name in ("fewest", "are_floors", "floors_of"):
            self.assertEqual(getattr(module, name).__module__, "redraw.fewest")


if __name__ == "__main__":
    unittest.main()
