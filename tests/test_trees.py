"""Trees of why a mending came: point 10."""

import copy
import unittest

from redraw import trees
from redraw.errors import NoStep
from redraw.running import run
from redraw.trees import passes, why
from samples import chance, plain_clash, some_order, some_riddles, some_runs

HUGE = 10 ** 60 - 1
NOUGHT = ((0,), ((0,),))
ONE_PLACE = (1, 2, (NOUGHT,))
# Three wishes, of which the middle one shares a place with each other.
CHAIN = (4, 2, (((0, 1), ((0, 0),)), ((1, 2), ((0, 0),)), ((2, 3), ((0, 0),))))
# A ring of six places, each wish with the rows of unlike hues of two places side by side.
UNLIKE = ((0, 1), (1, 0))
RING = (6, 2, (((0, 1), UNLIKE), ((1, 2), UNLIKE), ((2, 3), UNLIKE), ((3, 4), UNLIKE), ((4, 5), UNLIKE), ((0, 5), UNLIKE)))
LINE = [(0, (0, 0)), (2, (0, 0)), (1, (0, 0)), (0, (0, 0)), (2, (0, 0)), (1, (0, 0))]


def steps(numbers):
    """A log of these wishes of the chain."""
    return [(number, (0, 0)) for number in numbers]


def sorted_tree(tree):
    """The tree with all trees right below one sorted, so that their order counts for nothing."""
    return tree[0], tuple(sorted(sorted_tree(below) for below in tree[1]))


def stand(tree, depth=0):
    """Pairs (depth, wish) of all that stand in a tree."""
    told = [(depth, tree[0])]
    for below in tree[1]:
        told += stand(below, depth + 1)
    return told


def put_in(tree, depth, fits, number):
    """All trees with a wish put in right below one of those that fit and stand so deep."""
    if depth == 0:
        return [(tree[0], tree[1] + ((number, ()),))] if tree[0] in fits else []
    told = []
    for at, below in enumerate(tree[1]):
        for grown in put_in(below, depth - 1, fits, number):
            told.append((tree[0], tree[1][:at] + (grown,) + tree[1][at + 1:]))
    return told


def all_trees(riddle, log, t):
    """All trees, sorted ones, that may be told for step t."""
    told = {(log[t][0], ())}
    for number, _ in reversed(log[:t]):
        fits = [other for other in range(len(riddle[2])) if plain_clash(riddle, number, other)]
        later = set()
        for tree in told:
            depths = [depth for depth, other in stand(tree) if other in fits]
            grown = put_in(tree, max(depths), fits, number) if depths else [tree]
            later.update(sorted_tree(one) for one in grown)
        told = later
    return told


def plain_passes(riddle, table, tree):
    found = stand(tree)
    for depth, number in found:
        places, rows = riddle[2][number]
        hues = []
        for place in places:
            k = sum(1 for other, wish in found if other > depth and place in riddle[2][wish][0])
            hues.append(table[place][k] if k < len(table[place]) else None)
        if tuple(hues) not in rows:
            return False
    return True


def some_tree(rng, number, wishes):
    """A tree of so many wishes, each new one below any of the others."""
    below = [[] for _ in range(number)]
    for one in range(1, number):
        below[rng.randrange(max(0, one - 3), one)].append(one)
    told = [None] * number
    for one in reversed(range(number)):
        told[one] = (rng.randrange(wishes), tuple(told[other] for other in below[one]))
    return told[0]


def some_log(rng, riddle, most):
    log = []
    for _ in range(rng.randint(1, most)):
        number = rng.randrange(len(riddle[2]))
        log.append((number, rng.choice(riddle[2][number][1])))
    return log


class WhyByHand(unittest.TestCase):
    def test_step_0(self):
        self.assertEqual(why(ONE_PLACE, [(0, (0,))], 0), (0, ()))
        self.assertEqual(why(CHAIN, LINE, 0), (0, ()))
        self.assertEqual(why(CHAIN, steps([2, 1, 0]), 0), (2, ()))

    def test_a_wish_by_itself_makes_a_row(self):
        log = [(0, (0,))] * 4
        self.assertEqual(why(ONE_PLACE, log, 1), (0, ((0, ()),)))
        self.assertEqual(why(ONE_PLACE, log, 3), (0, ((0, ((0, ((0, ()),)),)),)))

    def test_others_are_left_out(self):
        self.assertEqual(why(CHAIN, LINE, 1), (2, ()))
        self.assertEqual(why(CHAIN, steps([0, 0, 2]), 2), (2, ()))
        self.assertEqual(why(CHAIN, steps([0, 2, 0]), 2), (0, ((0, ()),)))

    def test_later_steps_count_for_nothing(self):
        for t in range(len(LINE)):
            self.assertEqual(why(CHAIN, LINE, t), why(CHAIN, LINE[:t + 1], t))

    def test_two_right_below_one(self):
        self.assertIn(why(CHAIN, LINE, 2), [(1, ((0, ()), (2, ()))), (1, ((2, ()), (0, ())))])

    def test_below_the_deepest_one(self):
        # Wish 0 of step 0 clashes with the top, with wish 0 below it, and not with wish 2.
        self.assertEqual(sorted_tree(why(CHAIN, steps([0, 0, 2, 1]), 3)), (1, ((0, ((0, ()),)), (2, ()))))
        # It's put below the deepest one, not below the top that it clashes with too.
        self.assertEqual(why(CHAIN, steps([0, 1, 1]), 2), (1, ((1, ((0, ()),)),)))
        # The deepest one isn't the one that was put in last.
        told = why(CHAIN, steps([1, 2, 0, 0, 1]), 4)
        self.assertEqual(sorted_tree(told), (1, ((0, ((0, ((1, ()),)),)), (2, ()))))
        told = why(CHAIN, steps([1, 0, 2, 2, 1]), 4)
        self.assertEqual(sorted_tree(told), (1, ((0, ()), (2, ((2, ((1, ()),)),)))))

    def test_a_wish_that_is_reached_by_another_one_only(self):
        self.assertEqual(why(CHAIN, steps([2, 1, 0]), 2), (0, ((1, ((2, ()),)),)))
        self.assertEqual(why(CHAIN, steps([1, 2, 0]), 2), (0, ((1, ()),)))

    def test_any_of_the_deepest_ones(self):
        told = sorted_tree(why(CHAIN, steps([1, 2, 0, 1]), 3))
        self.assertIn(told, [(1, ((0, ()), (2, ((1, ()),)))), (1, ((0, ((1, ()),)), (2, ())))])

    def test_the_last_step(self):
        told = sorted_tree(why(CHAIN, LINE, 5))
        self.assertIn(told, all_trees(CHAIN, LINE, 5))
        self.assertEqual(len(stand(told)), 6)

    def test_alike_wishes_clash(self):
        riddle = (1, 2, (NOUGHT, NOUGHT))
        self.assertEqual(why(riddle, [(0, (0,)), (1, (0,)), (0, (0,))], 2), (0, ((1, ((0, ()),)),)))

    def test_sixty_deep_and_deeper(self):
        for number in (60, 61, 2000):
            tree = why(ONE_PLACE, [(0, (0,))] * number, number - 1)
            depth = 1
            while tree[1]:
                self.assertEqual((tree[0], len(tree[1])), (0, 1))
                tree = tree[1][0]
                depth += 1
            self.assertEqual((depth, tree), (number, (0, ())))


class WhyByAnotherWay(unittest.TestCase):
    def test_of_any_log(self):
        rng = chance(1001)
        for riddle in some_riddles(1002, 2):
            if riddle[2]:
                log = some_log(rng, riddle, 7)
                for t in range(len(log)):
                    self.assertIn(sorted_tree(why(riddle, log, t)), all_trees(riddle, log, t), (riddle, log, t))

    def test_of_logs_of_a_row_and_of_a_ring(self):
        rng = chance(1014)
        for riddle in (CHAIN, RING):
            for _ in range(100):
                log = some_log(rng, riddle, 9)
                t = len(log) - 1
                self.assertIn(sorted_tree(why(riddle, log, t)), all_trees(riddle, log, t), (riddle, log))

    def test_of_runs(self):
        for riddle, table, order in some_runs(1003, 4, 3):
            log = run(riddle, table, order)[2]
            for t in range(len(log)):
                told = why(riddle, log, t)
                if t < 8:
                    self.assertIn(sorted_tree(told), all_trees(riddle, log, t), (riddle, log, t))


class NoSuchStep(unittest.TestCase):
    def refused(self, riddle, log, t):
        with self.assertRaises(NoStep) as caught:
            why(riddle, log, t)
        self.assertIs(type(caught.exception), NoStep)

    def test_below_nought(self):
        for t in (-1, -2, -5, -6, -7, -HUGE):
            self.refused(CHAIN, LINE, t)

    def test_as_many_as_there_are_and_far_out(self):
        for t in (6, 7, 60, HUGE):
            self.refused(CHAIN, LINE, t)
        self.refused(ONE_PLACE, [(0, (0,))], 1)

    def test_an_empty_log_has_no_step(self):
        for t in (0, 1, -1, HUGE, -HUGE):
            self.refused(ONE_PLACE, [], t)
            self.refused((1, 2, ()), [], t)

    def test_what_is_refused_changes_nothing(self):
        log = list(LINE)
        self.refused(CHAIN, log, 6)
        self.assertEqual(log, LINE)


def row_of(number, wish=0):
    """So many wishes, each right below the one before."""
    tree = (wish, ())
    for _ in range(number - 1):
        tree = (wish, (tree,))
    return tree


class PassesByHand(unittest.TestCase):
    def test_one_wish(self):
        self.assertIs(passes(ONE_PLACE, [[0]], (0, ())), True)
        self.assertIs(passes(ONE_PLACE, [[0, 1]], (0, ())), True)
        self.assertIs(passes(ONE_PLACE, [[1]], (0, ())), False)
        self.assertIs(passes(ONE_PLACE, [[1, 0]], (0, ())), False)

    def test_hues_in_the_order_of_the_places(self):
        riddle = (3, 3, (((0, 2), ((0, 1), (2, 2))),))
        self.assertIs(passes(riddle, [[0], [2], [1]], (0, ())), True)
        self.assertIs(passes(riddle, [[2], [0], [2]], (0, ())), True)
        self.assertIs(passes(riddle, [[1], [2], [0]], (0, ())), False)
        self.assertIs(passes(riddle, [[0], [1], [2]], (0, ())), False)

    def test_the_deepest_one_has_the_first_draw(self):
        riddle = (1, 2, (NOUGHT, ((0,), ((1,),))))
        self.assertIs(passes(riddle, [[0, 1]], (1, ((0, ()),))), True)
        self.assertIs(passes(riddle, [[1, 0]], (1, ((0, ()),))), False)
        self.assertIs(passes(riddle, [[1, 0]], (0, ((1, ()),))), True)

    def test_a_draw_that_is_not_there(self):
        self.assertIs(passes(ONE_PLACE, [[0]], (0, ((0, ()),))), False)
        self.assertIs(passes(ONE_PLACE, [[0, 0]], (0, ((0, ()),))), True)
        self.assertIs(passes(CHAIN, [[0], [0, 0], [0, 0], [0]], (1, ((0, ()), (2, ())))), True)
        self.assertIs(passes(CHAIN, [[0], [0, 0], [0], [0]], (1, ((0, ()), (2, ())))), False)
        self.assertIs(passes(CHAIN, [[0], [0], [0, 0], [0]], (1, ((0, ()), (2, ())))), False)

    def test_a_draw_that_is_not_there_is_none_from_the_end(self):
        riddle = (1, 3, (((0,), ((0,), (1,), (2,))),))
        self.assertIs(passes(riddle, [[2]], row_of(2)), False)
        self.assertIs(passes(riddle, [[2, 1]], row_of(2)), True)
        self.assertIs(passes(riddle, [[2, 1]], row_of(3)), False)

    def test_only_deeper_ones_count(self):
        # Both leaves have the place's first draw, and the top the third one.
        tree = (0, ((0, ()), (0, ())))
        self.assertIs(passes(ONE_PLACE, [[0, 1, 0]], tree), True)
        self.assertIs(passes(ONE_PLACE, [[0, 0, 1]], tree), False)
        self.assertIs(passes(ONE_PLACE, [[0, 0]], tree), False)

    def test_deeper_ones_count_wherever_they_stand(self):
        # The lone leaf stands less deep than the end of the other branch, whose draw is the first.
        tree = (0, ((0, ()), (0, ((0, ()),))))
        self.assertIs(passes(ONE_PLACE, [[0, 0, 1, 0]], tree), True)
        self.assertIs(passes(ONE_PLACE, [[0, 1, 0, 0]], tree), False)
        self.assertIs(passes(ONE_PLACE, [[1, 0, 0, 0]], tree), False)
        self.assertIs(passes(ONE_PLACE, [[0, 0, 0]], tree), False)

    def test_wishes_without_the_place_do_not_count(self):
        riddle = (2, 2, (NOUGHT, ((1,), ((0,),))))
        self.assertIs(passes(riddle, [[0], [0]], (0, ((1, ()),))), True)
        self.assertIs(passes(riddle, [[0], [0]], (0, ((1, ()),) * 50)), True)
        self.assertIs(passes(riddle, [[0], [0, 0]], (0, ((1, ((0, ()),)),))), False)
        self.assertIs(passes(riddle, [[0, 0], [0]], (0, ((1, ((0, ()),)),))), True)

    def test_each_wish_of_it_must_have_its_row(self):
        tree = (1, ((0, ()), (2, ())))
        for place, draw in [(0, 0), (1, 0), (1, 1), (2, 0), (2, 1), (3, 0)]:
            table = [[0, 0], [0, 0], [0, 0], [0, 0]]
            self.assertIs(passes(CHAIN, table, tree), True)
            table[place][draw] = 1
            self.assertIs(passes(CHAIN, table, tree), False, (place, draw))

    def test_the_order_right_below_counts_for_nothing(self):
        table = [[0, 1], [0, 0, 1], [0, 0, 1], [0, 1]]
        self.assertIs(passes(CHAIN, table, (1, ((0, ()), (2, ())))), True)
        self.assertIs(passes(CHAIN, table, (1, ((2, ()), (0, ())))), True)

    def test_sixty_deep(self):
        for number in (59, 60, 61):
            self.assertIs(passes(ONE_PLACE, [[0] * number], row_of(number)), True)
            self.assertIs(passes(ONE_PLACE, [[0] * (number - 1)], row_of(number)), False)
            for at in (0, 30, number - 1):
                table = [[0] * (number + 1)]
                table[0][at] = 1
                self.assertIs(passes(ONE_PLACE, table, row_of(number)), False, at)
            self.assertIs(passes(ONE_PLACE, [[0] * number + [1]], row_of(number)), True)

    def test_sixty_deep_with_three_places(self):
        riddle = (3, 2, (((0, 1, 2), ((0, 1, 1),)), ((1,), ((0,),))))
        tree = row_of(59)
        table = [[0] * 59, [1] * 59 + [0], [1] * 59]
        self.assertIs(passes(riddle, table, (1, (tree,))), True)
        self.assertIs(passes(riddle, [table[0], [1] * 59, table[2]], (1, (tree,))), False)
        self.assertIs(passes(riddle, [table[0], [1] * 60, table[2]], (1, (tree,))), False)

    def test_sixty_deep_with_the_same_tree_twice_below_each(self):
        tree = (0, ())
        for _ in range(59):
            tree = (0, (tree, tree))
        self.assertIs(passes(ONE_PLACE, [[0] * 200], tree), False)
        riddle = (6, 2, tuple(((place,), ((0,),)) for place in range(6)))
        tree = (0, ())
        for depth in range(59):
            tree = (depth % 6, (tree, tree))
        self.assertIs(passes(riddle, [[0] * 200] * 6, tree), False)

    def test_wide_below_one(self):
        self.assertIs(passes(ONE_PLACE, [[0] * 201], (0, ((0, ()),) * 200)), True)
        self.assertIs(passes(ONE_PLACE, [[0] * 200], (0, ((0, ()),) * 200)), False)


class PassesByAnotherWay(unittest.TestCase):
    def test_of_any_tree(self):
        rng = chance(1004)
        seen = {True: 0, False: 0}
        for riddle in some_riddles(1005):
            for _ in range(12):
                if riddle[2]:
                    tree = some_tree(rng, rng.randint(1, 6), len(riddle[2]))
                    table = [[rng.randrange(riddle[1]) for _ in range(rng.randint(1, 7))] for _ in range(riddle[0])]
                    told = passes(riddle, table, tree)
                    self.assertIs(told, plain_passes(riddle, table, tree), (riddle, table, tree))
                    seen[told] += 1
        self.assertGreater(min(seen.values()), 100)

    def test_of_any_tree_where_draws_lack_or_not(self):
        rng = chance(1006)
        seen = {True: 0, False: 0}
        for _ in range(600):
            many = rng.randint(1, 4)
            rows = [((0,), (1,)), ((0, 0), (0, 1), (1, 0), (1, 1))]
            wishes = []
            for _ in range(rng.randint(1, 4)):
                length = rng.randint(1, min(2, many))
                wishes.append((tuple(sorted(rng.sample(range(many), length))), rows[length - 1]))
            riddle = (many, 2, tuple(wishes))
            tree = some_tree(rng, rng.randint(1, 8), len(wishes))
            table = [[rng.randrange(2) for _ in range(rng.randint(1, 9))] for _ in range(many)]
            told = passes(riddle, table, tree)
            self.assertIs(told, plain_passes(riddle, table, tree), (riddle, table, tree))
            seen[told] += 1
        self.assertGreater(min(seen.values()), 100)

    def test_deep_trees(self):
        rng = chance(1007)
        for _ in range(60):
            riddle = (3, 2, (((0, 1), ((0, 0), (0, 1), (1, 0))), ((2,), ((0,), (1,))), ((1, 2), ((0, 0), (1, 1), (0, 1)))))
            tree = some_tree(rng, 60, 3)
            table = [[0 if rng.random() < 0.95 else 1 for _ in range(60)] for _ in range(3)]
            self.assertIs(passes(riddle, table, tree), plain_passes(riddle, table, tree))


class TreesOfRuns(unittest.TestCase):
    def test_each_mendings_tree_passes_on_the_table(self):
        mended = 0
        for seed in (1008, 1010):
            for riddle, table, order in some_runs(seed, 9, 3):
                log = run(riddle, table, order)[2]
                for t in range(len(log)):
                    self.assertTrue(passes(riddle, table, why(riddle, log, t)), (riddle, table, order, t))
                    mended += 1
        self.assertGreater(mended, 1500)

    def test_each_tree_of_long_runs_passes(self):
        rng = chance(1015)
        mended = 0
        for riddle, hues in ((CHAIN, (0, 0, 0, 0, 0, 0, 1)), (RING, (0, 1))):
            for _ in range(60):
                table = [[rng.choice(hues) for _ in range(30)] for _ in range(riddle[0])]
                log = run(riddle, table, some_order(rng, riddle))[2]
                told = [why(riddle, log, t) for t in range(len(log))]
                self.assertTrue(all(passes(riddle, table, tree) for tree in told), (riddle, table, log))
                self.assertEqual(len(set(map(sorted_tree, told))), len(told))
                mended += len(log)
        self.assertGreater(mended, 600)

    def test_no_two_mendings_have_one_tree(self):
        for riddle, table, order in some_runs(1012, 12, 4):
            log = run(riddle, table, order)[2]
            told = [sorted_tree(why(riddle, log, t)) for t in range(len(log))]
            for t, tree in enumerate(told):
                self.assertNotIn(tree, told[:t], (riddle, log, t))

    def test_a_long_run(self):
        table = [[0] * 60 + [1], [0] * 60 + [1]]
        riddle = (2, 2, (((0, 1), ((0, 0),)), NOUGHT))
        end, filling, log = run(riddle, table, (0, 1))
        self.assertEqual((end, filling, len(log)), ("kept", (1, 1), 60))
        for t in range(60):
            self.assertEqual(why(riddle, log, t), row_of(t + 1))
            self.assertTrue(passes(riddle, table, why(riddle, log, t)))


class NothingIsChanged(unittest.TestCase):
    def test_what_is_handed_in_stays(self):
        log = list(LINE)
        table = [[0, 0, 1], [0] * 5, [0] * 5, [0, 0, 1]]
        kept = copy.deepcopy((log, table))
        for t in range(len(log)):
            passes(CHAIN, table, why(CHAIN, log, t))
        self.assertEqual((log, table), kept)

    def test_the_same_again(self):
        tree = why(CHAIN, LINE, 5)
        self.assertEqual({type(tree), type(tree[1])}, {tuple})
        self.assertIn(sorted_tree(why(CHAIN, LINE, 5)), all_trees(CHAIN, LINE, 5))

    def test_both_stand_in_their_file(self):
        for name in ("why", "passes"):
            self.assertEqual(getattr(trees, name).__module__, "redraw.trees")


if __name__ == "__main__":
    unittest.main()
