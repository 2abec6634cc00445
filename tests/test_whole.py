"""What the document promises over the whole program: point 3, held between the parts."""

import collections
import itertools
import pkgutil
import unittest
from fractions import Fraction

import redraw
from redraw.apart import apart
from redraw.back import is_run, told_back
from redraw.chances import chance as chance_of, mean
from redraw.desk import Desk
from redraw.errors import DrawError, NoEnd, NoTable, Spent, TooMany
from redraw.fewest import are_floors, fewest, floors_of
from redraw.keeper import Keeper
from redraw.riddles import broken, counts, is_riddle
from redraw.running import run
from redraw.texts import read_riddle, show_riddle
from redraw.trees import passes, why
from redraw.weights import least_a, least_kept, most_mended, shows_soon, weights_of
from samples import SIZES, all_fillings, chance, some_apart, some_order, some_riddle, some_table, some_wish

MOST_DRAWS = {1: 60, 2: 20, 3: 8, 4: 6, 5: 5, 6: 4}


def some_pairs(seed, number, most_wishes, most_rows):
    """(riddle, table) with products that the fewest are told of."""
    rng = chance(seed)
    told = []
    for many, hues in SIZES * number:
        riddle = some_riddle(rng, many, hues, rng.randint(0, most_wishes), most_rows)
        told.append((riddle, some_table(rng, riddle, MOST_DRAWS[many])))
    return told


def some_orders(rng, riddle):
    """All orders of few wishes, some of many."""
    numbers = range(len(riddle[2]))
    if len(numbers) <= 4:
        return list(itertools.permutations(numbers))
    return [some_order(rng, riddle) for _ in range(24)]


def can_be_mended(riddle, table, wishes):
    """Whether these wishes are broken and mended one by one till all are kept."""
    taken = [0] * riddle[0]
    for number in wishes:
        if number not in broken(riddle, tuple(draws[k] for draws, k in zip(table, taken))):
            return False
        for place in riddle[2][number][0]:
            taken[place] += 1
    return broken(riddle, tuple(draws[k] for draws, k in zip(table, taken))) == []


def answer(function, *arguments):
    """What a function tells, or the class of its refusal."""
    try:
        return function(*arguments)
    except DrawError as refusal:
        return type(refusal)


class FewestOfRuns(unittest.TestCase):
    def test_no_kept_run_has_fewer(self):
        rng = chance(301)
        seen = collections.Counter()
        for riddle, table in some_pairs(302, 6, 4, 3) + some_pairs(303, 3, 8, 2):
            told = fewest(riddle, table)
            logs = [log for end, _, log in (run(riddle, table, order) for order in some_orders(rng, riddle)) if end == "kept"]
            if told is None:
                self.assertEqual(logs, [])
                self.assertIs(answer(floors_of, riddle, table), NoEnd)
                seen["none"] += 1
                continue
            self.assertTrue(can_be_mended(riddle, table, told))
            floors = floors_of(riddle, table)
            self.assertIs(are_floors(riddle, table, floors), True)
            self.assertEqual(floors.get((0,) * riddle[0], 0), len(told))
            for log in logs:
                self.assertGreaterEqual(len(log), len(told))
                seen["more" if len(log) > len(told) else "as many"] += 1
        for way in ("none", "more", "as many"):
            self.assertGreater(seen[way], 10, way)

    def test_where_wishes_are_apart_each_kept_run_has_as_many(self):
        rng = chance(304)
        seen = collections.Counter()
        for riddle in some_apart(305, 150, 5):
            table = some_table(rng, riddle, MOST_DRAWS[riddle[0]])
            self.assertEqual(apart(riddle), ("apart",))
            told = fewest(riddle, table)
            runs = [run(riddle, table, order) for order in some_orders(rng, riddle)]
            if told is None:
                self.assertEqual({end for end, _, _ in runs}, {"spent"})
            else:
                self.assertEqual({end for end, _, _ in runs}, {"kept"})
                self.assertEqual(len({filling for _, filling, _ in runs}), 1)
                self.assertEqual({tuple(sorted(number for number, _ in log)) for _, _, log in runs}, {tuple(sorted(told))})
            seen["none" if told is None else "mended" if told else "kept"] += 1
        self.assertGreater(min(seen["none"], seen["mended"], seen["kept"]), 5)


class RunsToldBackAndTheirTrees(unittest.TestCase):
    def test_of_many_runs(self):
        rng = chance(306)
        mended = 0
        for riddle, _ in some_pairs(307, 8, 6, 2):
            table, order = some_table(rng, riddle, 20), some_order(rng, riddle)
            end, filling, log = run(riddle, table, order)
            back = told_back(riddle, filling, log)
            self.assertEqual([draws[:len(had)] for draws, had in zip(table, back)], back)
            self.assertIs(is_run(riddle, order, end, filling, log), True)
            self.assertEqual(run(riddle, back, order), (end, filling, log))
            trees = [why(riddle, log, t) for t in range(len(log))]
            self.assertTrue(all(passes(riddle, table, tree) for tree in trees))
            self.assertEqual(len({repr(tree) for tree in trees}), len(trees))
            mended += len(log) > 2
        self.assertGreater(mended, 30)


class ChancesAndWeights(unittest.TestCase):
    def test_what_weights_tell_holds(self):
        seen = collections.Counter()
        for riddle, _ in some_pairs(308, 30, 3, 1):
            weights = weights_of(riddle)
            if weights is None:
                self.assertIsNone(least_a(riddle))
                continue
            self.assertIs(shows_soon(riddle, weights), True)
            self.assertLessEqual(Fraction(*least_kept(riddle, weights)), counts(riddle)[0])
            seen["kept"] += 1
            if riddle[1] ** riddle[0] <= 32:
                self.assertLessEqual(Fraction(*mean(riddle)), Fraction(*most_mended(riddle, weights)))
                seen["mean"] += 1
        self.assertGreater(min(seen["kept"], seen["mean"]), 30)

    def test_the_chance_of_no_mending_is_that_of_the_counts(self):
        for riddle, _ in some_pairs(309, 2, 8, 3):
            self.assertEqual(Fraction(*chance_of(riddle, 0)), Fraction(counts(riddle)[0], len(all_fillings(riddle))))


class Keepers(unittest.TestCase):
    def check(self, keeper, table, wishes, size):
        names = sorted(wishes)
        riddle = size + (tuple(wishes[name] for name in names),)
        self.assertTrue(is_riddle(riddle))
        self.assertEqual(keeper.names(), names)
        self.assertEqual(broken(riddle, keeper.filling()), [])
        self.assertEqual(keeper.filling(), tuple(draws[k] for draws, k in zip(table, keeper.taken())))

    def test_the_filling_keeps_all_whatever_came_and_went(self):
        rng = chance(310)
        seen = collections.Counter()
        for size in SIZES * 6:
            table = [[rng.randrange(size[1]) for _ in range(rng.randint(5, 80))] for _ in range(size[0])]
            keeper = Keeper(*size, [list(draws) for draws in table])
            wishes = {}
            for _ in range(40):
                if wishes and rng.random() < 0.4:
                    gone = rng.choice(sorted(wishes))
                    keeper.forget(gone)
                    del wishes[gone]
                else:
                    name, wish = rng.choice("abcdefghijkl"), some_wish(rng, *size, 2)
                    told = answer(keeper.wish, name, *wish)
                    if type(told) is list:
                        wishes[name] = wish
                    seen["mended" if told else "kept" if told == [] else told.__name__] += 1
                self.check(keeper, table, wishes, size)
        self.assertGreater(seen["mended"], 100)

    def test_one_wish_behind_wishes_that_are_kept_goes_as_a_run(self):
        # All but the last wish are kept by the first filling, so that the run is the keeper's.
        rng = chance(311)
        seen = collections.Counter()
        for riddle, table in some_pairs(312, 20, 6, 3):
            first = tuple(draws[0] for draws in table)
            bad = broken(riddle, first)
            if len(bad) != 1:
                continue
            keeper = Keeper(riddle[0], riddle[1], table)
            for number in [number for number in some_order(rng, riddle) if number not in bad] + bad:
                places, rows = riddle[2][number]
                told = answer(keeper.wish, "abcdefgh"[number], places, rows)
            end, filling, log = run(riddle, table, tuple(range(len(riddle[2]))))
            if end == "spent":
                self.assertIs(told, Spent)
                self.assertEqual((keeper.filling(), keeper.taken()), (first, [0] * riddle[0]))
            else:
                self.assertEqual(told, ["abcdefgh"[number] for number, _ in log])
                self.assertEqual(keeper.filling(), filling)
                self.assertEqual(keeper.taken(), [len(had) - 1 for had in told_back(riddle, filling, log)])
            seen[end] += 1
        self.assertGreater(min(seen["kept"], seen["spent"]), 10)


class Desks(unittest.TestCase):
    def answers(self, riddle, table):
        """What the functions tell, written as a desk's answers."""
        order = tuple(range(len(riddle[2])))
        told = {"counts": " ".join(str(number) for number in counts(riddle)), "show": show_riddle(riddle).replace("\n", " / ")}
        told["apart"] = "yes" if apart(riddle)[0] == "apart" else "no"
        told["weights"] = "none" if least_a(riddle) is None else str(least_a(riddle))
        told["mean"] = answer(mean, riddle)
        if told["mean"] is not TooMany:
            told["mean"] = "none" if told["mean"] is None else "{}/{}".format(*told["mean"])
        end, filling, log = run(riddle, table, order)
        told["run"] = f"{end} {len(log)}"
        told["filling"] = "".join(str(hue) for hue in filling)
        told["fewest"] = answer(fewest, riddle, table)
        if told["fewest"] is not TooMany:
            told["fewest"] = "none" if told["fewest"] is None else str(len(told["fewest"]))
        return told

    def test_a_desk_answers_as_the_functions_do(self):
        rng = chance(313)
        seen = collections.Counter()
        desk = Desk()
        for riddle, table in some_pairs(314, 6, 8, 2) + some_pairs(315, 6, 3, 1):
            if rng.random() < 0.1:
                table = [(draws * 200)[:200] for draws in table]
            self.assertEqual(desk.say("riddle " + show_riddle(riddle).replace("\n", " / ")), "ok")
            for place, draws in enumerate(table):
                self.assertIs(answer(desk.say, "run"), NoTable)
                self.assertEqual(desk.say(f"draws {place} " + "".join(str(hue) for hue in draws)), "ok")
            told = self.answers(riddle, table)
            for row in rng.sample(sorted(told), len(told)):
                self.assertEqual(answer(desk.say, row), told[row], row)
                seen[row, told[row]] += 1
            self.assertEqual(read_riddle(desk.say("show").replace(" / ", "\n")), riddle)
        for key in [("mean", TooMany), ("mean", "none"), ("mean", "0/1"), ("fewest", "none"), ("fewest", TooMany), ("fewest", "0"),
                    ("fewest", "1"), ("weights", "none"), ("weights", "1"), ("apart", "yes"), ("apart", "no")]:
            self.assertGreater(seen[key], 2, key)


class Package(unittest.TestCase):
    def test_all_modules_of_the_interface_are_there(self):
        names = {module.name for module in pkgutil.iter_modules(redraw.__path__)}
        asked = "errors riddles running back chances weights trees apart fewest keeper texts desk"
        self.assertLessEqual(set(asked.split()), names)


if __name__ == "__main__":
    unittest.main()
