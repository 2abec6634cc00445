"""Runs by an order: point 6."""

import copy
import unittest

from redraw.running import run
from samples import plain_run, some_runs

NOUGHT = ((0,), ((0,),))
# Three wishes, of which the middle one shares a place with each other.
CHAIN = (4, 2, (((0, 1), ((0, 0),)), ((1, 2), ((0, 0),)), ((2, 3), ((0, 0),))))


class ByHand(unittest.TestCase):
    def test_kept_at_once(self):
        self.assertEqual(run((1, 2, ()), [[0]], ()), ("kept", (0,), []))
        self.assertEqual(run((2, 3, ()), [[2, 0], [1]], ()), ("kept", (2, 1), []))
        self.assertEqual(run((1, 2, (NOUGHT,)), [[1, 0]], (0,)), ("kept", (1,), []))

    def test_kept_after_some_mendings(self):
        told = run((1, 3, (NOUGHT,)), [[0, 0, 2, 1]], (0,))
        self.assertEqual(told, ("kept", (2,), [(0, (0,)), (0, (0,))]))

    def test_kept_by_the_last_draw(self):
        self.assertEqual(run((1, 2, (NOUGHT,)), [[0, 1]], (0,)), ("kept", (1,), [(0, (0,))]))

    def test_spent_at_once_and_later(self):
        self.assertEqual(run((1, 2, (NOUGHT,)), [[0]], (0,)), ("spent", (0,), []))
        self.assertEqual(run((1, 2, (NOUGHT,)), [[0, 0]], (0,)), ("spent", (0,), [(0, (0,))]))

    def test_a_wish_of_all_rows_is_spent(self):
        riddle = (1, 2, (((0,), ((0,), (1,))),))
        self.assertEqual(run(riddle, [[0, 1, 1]], (0,)), ("spent", (1,), [(0, (0,)), (0, (1,))]))

    def test_all_places_of_the_wish_draw_and_no_others(self):
        riddle = (3, 3, (((0, 2), ((0, 0), (1, 2))),))
        told = run(riddle, [[0, 1, 2], [1, 0], [0, 2, 2]], (0,))
        self.assertEqual(told, ("kept", (2, 1, 2), [(0, (0, 0)), (0, (1, 2))]))

    def test_the_first_broken_one_in_the_order(self):
        table = [[0, 1], [0, 0, 1], [0, 1, 0, 1], [0, 1, 1]]
        self.assertEqual(
            run(CHAIN, table, (0, 1, 2)),
            ("kept", (1, 1, 1, 0), [(0, (0, 0)), (1, (0, 0))]),
        )
        self.assertEqual(
            run(CHAIN, table, (2, 1, 0)),
            ("kept", (1, 0, 1, 1), [(2, (0, 0)), (0, (0, 0))]),
        )
        self.assertEqual(
            run(CHAIN, table, (1, 0, 2)),
            ("kept", (1, 1, 1, 0), [(1, (0, 0)), (0, (0, 0))]),
        )

    def test_the_order_is_asked_anew_at_each_step(self):
        # Mending wish 1 breaks wish 0 again, which then goes first.
        riddle = (2, 2, (((0,), ((0,),)), ((0, 1), ((1, 0),))))
        table = [[0, 1, 0, 1], [0, 1]]
        self.assertEqual(run(riddle, table, (0, 1)), ("kept", (1, 1), [(0, (0,)), (1, (1, 0)), (0, (0,))]))
        self.assertEqual(run(riddle, table, (1, 0)), ("kept", (1, 1), [(0, (0,)), (1, (1, 0)), (0, (0,))]))

    def test_alike_wishes_by_their_order(self):
        riddle = (1, 2, (NOUGHT, NOUGHT, NOUGHT))
        self.assertEqual(run(riddle, [[0, 0, 1]], (2, 0, 1)), ("kept", (1,), [(2, (0,)), (2, (0,))]))

    def test_a_place_that_lacks_a_next_draw_spends_the_run(self):
        riddle = (2, 2, (((0, 1), ((0, 0),)),))
        self.assertEqual(run(riddle, [[0, 1], [0]], (0,)), ("spent", (0, 0), []))
        self.assertEqual(run(riddle, [[0], [0, 1]], (0,)), ("spent", (0, 0), []))
        self.assertEqual(run(riddle, [[0, 0, 1], [0, 0]], (0,)), ("spent", (0, 0), [(0, (0, 0))]))
        three = (3, 2, (((0, 1, 2), ((0, 0, 0),)),))
        for short in range(3):
            table = [[0, 1], [0, 1], [0, 1]]
            table[short] = [0]
            self.assertEqual(run(three, table, (0,)), ("spent", (0, 0, 0), []))

    def test_no_other_wish_is_mended_where_the_first_one_lacks_a_draw(self):
        riddle = (2, 2, (((0,), ((0,),)), ((1,), ((0,),))))
        table = [[0], [0, 1]]
        self.assertEqual(run(riddle, table, (0, 1)), ("spent", (0, 0), []))
        self.assertEqual(run(riddle, table, (1, 0)), ("spent", (0, 1), [(1, (0,))]))

    def test_a_place_without_next_draws_is_no_matter_to_others(self):
        riddle = (2, 2, (((1,), ((0,),)),))
        self.assertEqual(run(riddle, [[0], [0, 0, 1]], (0,)), ("kept", (0, 1), [(0, (0,)), (0, (0,))]))

    def test_one_list_for_all_places(self):
        draws = [0, 0, 1]
        riddle = (3, 2, (((0, 1), ((0, 0),)), ((2,), ((0,),))))
        told = run(riddle, [draws] * 3, (1, 0))
        log = [(1, (0,)), (1, (0,)), (0, (0, 0)), (0, (0, 0))]
        self.assertEqual(told, ("kept", (1, 1, 1), log))
        self.assertEqual(draws, [0, 0, 1])


class OfAllSizes(unittest.TestCase):
    def test_as_gone_by_taking_draws_off_copies(self):
        ends = []
        for riddle, table, order in some_runs(31, 6) + some_runs(32, 12, 2) + some_runs(33, 2, 3):
            told = run(riddle, table, order)
            self.assertEqual(told, plain_run(riddle, table, order), (riddle, table, order))
            ends.append((told[0], len(told[2]) > 0))
        for kind in (("kept", False), ("kept", True), ("spent", False), ("spent", True)):
            self.assertGreater(ends.count(kind), 20)

    def test_one_list_for_all_places(self):
        for riddle, table, order in some_runs(34, 9, 2):
            draws = table[0]
            expected = plain_run(riddle, [list(draws) for _ in table], order)
            self.assertEqual(run(riddle, [draws] * riddle[0], order), expected)

    def test_the_table_is_left_as_it_was(self):
        for riddle, table, order in some_runs(35, 6):
            ahead = copy.deepcopy(table)
            parts = list(table)
            run(riddle, table, order)
            self.assertEqual(table, ahead)
            self.assertTrue(all(one is other for one, other in zip(table, parts)))


class Kinds(unittest.TestCase):
    def test_kinds(self):
        for riddle, table, order in some_runs(36, 6):
            told = run(riddle, table, order)
            self.assertIs(type(told), tuple)
            self.assertEqual(len(told), 3)
            end, filling, log = told
            self.assertIn(end, ("kept", "spent"))
            self.assertIs(type(filling), tuple)
            self.assertEqual(len(filling), riddle[0])
            self.assertIs(type(log), list)
            for pair in log:
                self.assertIs(type(pair), tuple)
                self.assertEqual(len(pair), 2)
                wish, row = pair
                self.assertIs(type(wish), int)
                self.assertIs(type(row), tuple)
                self.assertIn(row, riddle[2][wish][1])

    def test_each_log_is_a_new_one(self):
        for table in ([[0, 0, 1]], [[1]], [[0, 0]], [[0]]):
            first = run((1, 2, (NOUGHT,)), table, (0,))
            kept = copy.deepcopy(first)
            first[2].append("more")
            second = run((1, 2, (NOUGHT,)), table, (0,))
            self.assertEqual(second, kept)
            self.assertIsNot(first[2], second[2])

    def test_a_table_changed_later_changes_nothing(self):
        table = [[0, 0, 1]]
        told = run((1, 2, (NOUGHT,)), table, (0,))
        table[0][:] = [1, 1, 1]
        self.assertEqual(told, ("kept", (1,), [(0, (0,)), (0, (0,))]))
        self.assertEqual(run((1, 2, (NOUGHT,)), table, (0,)), ("kept", (1,), []))


class Long(unittest.TestCase):
    def test_some_hundred_mendings(self):
        for many in (99, 100, 101, 255, 256, 257, 700, 3000):
            log = [(0, (0,))] * many
            self.assertEqual(run((1, 2, (NOUGHT,)), [[0] * many + [1]], (0,)), ("kept", (1,), log))
            self.assertEqual(run((1, 2, (NOUGHT,)), [[0] * (many + 1)], (0,)), ("spent", (0,), log))

    def test_by_turns(self):
        riddle = (2, 2, (((0,), ((0,),)), ((0, 1), ((1, 0),))))
        table = [[0, 1] * 400, [0] * 399 + [1]]
        told = run(riddle, table, (1, 0))
        self.assertEqual(told, ("kept", (1, 1), [(0, (0,)), (1, (1, 0))] * 399 + [(0, (0,))]))
        self.assertEqual(told, plain_run(riddle, table, (1, 0)))


if __name__ == "__main__":
    unittest.main()
