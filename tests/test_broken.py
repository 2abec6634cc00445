"""Broken wishes, counts and clashes: point 5."""

import unittest

from redraw.riddles import broken, clashing, counts
from samples import all_fillings, plain_broken, some_riddles

RIDDLE = (3, 2, (
    ((0, 1), ((0, 0), (1, 1))),
    ((2,), ((1,),)),
    ((0, 2), ((0, 1),)),
    ((2,), ((0,),)),
    ((0, 2), ((0, 1),)),
))


class Broken(unittest.TestCase):
    def test_by_hand(self):
        self.assertEqual(broken(RIDDLE, (0, 0, 0)), [0, 3])
        self.assertEqual(broken(RIDDLE, (0, 0, 1)), [0, 1, 2, 4])
        self.assertEqual(broken(RIDDLE, (0, 1, 1)), [1, 2, 4])
        self.assertEqual(broken(RIDDLE, (1, 0, 0)), [3])
        self.assertEqual(broken(RIDDLE, (1, 0, 1)), [1])
        self.assertEqual(broken(RIDDLE, (1, 1, 1)), [0, 1])

    def test_none_broken(self):
        self.assertEqual(broken((1, 2, ()), (0,)), [])
        self.assertEqual(broken((2, 2, (((0, 1), ((0, 1),)),)), (1, 0)), [])

    def test_the_hues_count_in_the_order_of_the_places(self):
        riddle = (3, 3, (((0, 2), ((0, 1),)), ((0, 2), ((1, 0),)), ((0, 1, 2), ((2, 0, 1),))))
        self.assertEqual(broken(riddle, (0, 2, 1)), [0])
        self.assertEqual(broken(riddle, (1, 2, 0)), [1])
        self.assertEqual(broken(riddle, (2, 0, 1)), [2])
        self.assertEqual(broken(riddle, (1, 0, 2)), [])

    def test_a_wish_of_all_rows_is_always_broken(self):
        riddle = (2, 2, (((1,), ((0,), (1,))),))
        for filling in all_fillings(riddle):
            self.assertEqual(broken(riddle, filling), [0])

    def test_all_fillings_of_riddles_of_all_sizes(self):
        for riddle in some_riddles(21):
            for filling in all_fillings(riddle):
                self.assertEqual(broken(riddle, filling), plain_broken(riddle, filling), (riddle, filling))

    def test_each_list_is_a_new_one(self):
        for filling in ((0, 0, 1), (1, 0, 0)):
            first = broken(RIDDLE, filling)
            self.assertIs(type(first), list)
            kept = list(first)
            first.append(99)
            first.reverse()
            second = broken(RIDDLE, filling)
            self.assertEqual(second, kept)
            self.assertIsNot(first, second)
        empty = broken((1, 2, ()), (0,))
        empty.append(5)
        self.assertEqual(broken((1, 2, ()), (0,)), [])


class Counts(unittest.TestCase):
    def test_by_hand(self):
        self.assertEqual(counts((1, 2, ())), [2])
        self.assertEqual(counts((4, 4, ())), [256])
        self.assertEqual(counts((1, 2, (((0,), ((0,),)),))), [1, 1])
        self.assertEqual(counts((1, 4, (((0,), ((0,), (1,), (3,))),) * 2)), [1, 0, 3])
        self.assertEqual(counts((2, 2, (((0,), ((0,), (1,))),))), [0, 4])
        self.assertEqual(counts((1, 2, (((0,), ((0,),)),) * 8)), [1, 0, 0, 0, 0, 0, 0, 0, 1])
        self.assertEqual(counts((3, 2, (((0, 1), ((0, 0),)), ((1, 2), ((0, 0),))))), [5, 2, 1])
        self.assertEqual(counts(RIDDLE), [0, 3, 3, 1, 1, 0])

    def test_against_all_fillings_gone_through(self):
        for riddle in some_riddles(22):
            many = [len(plain_broken(riddle, filling)) for filling in all_fillings(riddle)]
            told = counts(riddle)
            self.assertEqual(told, [many.count(k) for k in range(len(riddle[2]) + 1)], riddle)
            self.assertEqual(sum(told), riddle[1] ** riddle[0])

    def test_each_list_is_a_new_one(self):
        first = counts(RIDDLE)
        self.assertIs(type(first), list)
        first[0] = 99
        first.append(5)
        second = counts(RIDDLE)
        self.assertEqual(second, [0, 3, 3, 1, 1, 0])
        self.assertIsNot(first, second)


class Clashing(unittest.TestCase):
    def test_by_hand(self):
        self.assertEqual(clashing((1, 2, ())), [])
        self.assertEqual(clashing((1, 2, (((0,), ((0,),)),))), [[0]])
        self.assertEqual(clashing(RIDDLE), [[0, 2, 4], [1, 2, 3, 4], [0, 1, 2, 3, 4], [1, 2, 3, 4], [0, 1, 2, 3, 4]])

    def test_a_place_in_common_is_enough_whatever_the_rows(self):
        wishes = (((0, 1, 2), ((0, 0, 0),)), ((2, 3), ((1, 1),)), ((3, 4), ((0, 0),)), ((5,), ((0,),)), ((5,), ((1,),)))
        self.assertEqual(clashing((6, 2, wishes)), [[0, 1], [0, 1, 2], [1, 2], [3, 4], [3, 4]])

    def test_rows_in_common_are_not_enough(self):
        wishes = (((0,), ((0,), (1,))), ((1,), ((0,), (1,))), ((2,), ((0,), (1,))))
        self.assertEqual(clashing((3, 2, wishes)), [[0], [1], [2]])

    def test_riddles_of_all_sizes(self):
        for riddle in some_riddles(23):
            wishes = riddle[2]
            expected = [
                [k for k in range(len(wishes)) if set(wishes[k][0]) & set(places)] for places, _ in wishes
            ]
            told = clashing(riddle)
            self.assertEqual(told, expected, riddle)
            for number, numbers in enumerate(told):
                self.assertIn(number, numbers)

    def test_no_two_lists_are_one(self):
        riddle = (1, 2, (((0,), ((0,),)),) * 8)
        first = clashing(riddle)
        second = clashing(riddle)
        self.assertIs(type(first), list)
        lists = [first, second] + first + second
        for part in lists:
            self.assertIs(type(part), list)
        self.assertEqual(len({id(part) for part in lists}), 18)

    def test_what_is_done_to_a_list_changes_nothing(self):
        riddle = (1, 2, (((0,), ((0,),)),) * 3)
        first = clashing(riddle)
        first[0].append(99)
        self.assertEqual(first[1:], [[0, 1, 2], [0, 1, 2]])
        first.pop()
        self.assertEqual(clashing(riddle), [[0, 1, 2]] * 3)


class SomewhatBeyond(unittest.TestCase):
    """Nothing refuses here what goes somewhat beyond a limit of point 4."""

    def test_nine_wishes_seven_places_five_hues_four_places_of_a_wish(self):
        one = ((0,), ((0,),))
        for riddle in ((1, 2, (one,) * 9), (7, 2, (one,)), (1, 5, (one,)), (4, 2, (((0, 1, 2, 3), ((0,) * 4,)),))):
            self.assertEqual(broken(riddle, (0,) * riddle[0]), list(range(len(riddle[2]))))
            self.assertEqual(sum(counts(riddle)), riddle[1] ** riddle[0])
            self.assertEqual(len(clashing(riddle)), len(riddle[2]))


if __name__ == "__main__":
    unittest.main()
