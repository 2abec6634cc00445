"""Riddles, tables, orders and other things for the tests, and runs gone in a plain other way."""

import itertools
import random
from fractions import Fraction

HUGE = 10 ** 60 - 1
# Things of anything, as a refusal may meet them: none of them is a table, a wish, a name or a row.
ANYTHING = [
    None, True, False, 0, 1, 2, 7, -1, HUGE, -HUGE, "", " ", "0", "1 2", "\t", "\n", "A", "~" * 4000, "x" * 4000,
    (), [], {}, (0,), [0], {0: 0}, (None,), [None], ((),), [[]], [{}], ((0,),), [[0], []], [(0,)], ("a",), ["a"], {"a": "a"},
    {"a": {"b": {"c": {"d": [{}, ()]}}}}, [[[[[[[[]]]]]]]], ((((((((),),),),),),),), (1, 2, ()), {(0, 1): [True]},
]
SIZES = [(many, hues) for many in range(1, 7) for hues in range(2, 5) if hues ** many <= 256]


def chance(seed):
    return random.Random(seed)


def some_wish(rng, many, hues, most_rows=None):
    length = rng.randint(1, min(3, many))
    places = tuple(sorted(rng.sample(range(many), length)))
    rows = list(itertools.product(range(hues), repeat=length))
    most = len(rows) if most_rows is None else min(most_rows, len(rows))
    return places, tuple(sorted(rng.sample(rows, rng.randint(1, most))))


def some_riddle(rng, many, hues, number, most_rows=None):
    return many, hues, tuple(some_wish(rng, many, hues, most_rows) for _ in range(number))


def some_riddles(seed, most_rows=None):
    """Riddles of all sizes, each with none to eight wishes."""
    rng = chance(seed)
    return [some_riddle(rng, many, hues, number, most_rows) for many, hues in SIZES for number in range(9)]


def some_table(rng, riddle, most):
    many, hues = riddle[:2]
    return [[rng.randrange(hues) for _ in range(rng.randint(1, most))] for _ in range(many)]


def some_order(rng, riddle):
    order = list(range(len(riddle[2])))
    rng.shuffle(order)
    return tuple(order)


def all_fillings(riddle):
    return list(itertools.product(range(riddle[1]), repeat=riddle[0]))


def plain_broken(riddle, filling):
    told = []
    for number in range(len(riddle[2])):
        places, rows = riddle[2][number]
        if any(all(filling[p] == h for p, h in zip(places, row)) for row in rows):
            told.append(number)
    return told


def plain_run(riddle, table, order):
    """A run by taking draws off copies of the table's lists."""
    left = [list(draws) for draws in table]
    filling = [draws.pop(0) for draws in left]
    log = []
    while True:
        bad = sorted(plain_broken(riddle, filling), key=order.index)
        if not bad:
            return "kept", tuple(filling), log
        places = riddle[2][bad[0]][0]
        if min(len(left[place]) for place in places) == 0:
            return "spent", tuple(filling), log
        log.append((bad[0], tuple(filling[place] for place in places)))
        for place in places:
            filling[place] = left[place].pop(0)


def plain_taken(riddle, table, log):
    """The part of each place's draws that a run with this log has had."""
    return [draws[:1 + sum(place in riddle[2][wish][0] for wish, _ in log)] for place, draws in enumerate(table)]


def some_runs(seed, most_draws, most_rows=None):
    """(riddle, table, order) of all sizes."""
    rng = chance(seed)
    told = []
    for riddle in some_riddles(seed + 1, most_rows):
        for _ in range(3):
            told.append((riddle, some_table(rng, riddle, most_draws), some_order(rng, riddle)))
    return told


def pair_of(number):
    """A number as a fraction of the program."""
    return Fraction(number).numerator, Fraction(number).denominator


def is_fraction(thing):
    """Whether a thing is a pair of whole numbers in lowest terms."""
    if type(thing) is not tuple or [type(part) for part in thing] != [int, int] or thing[1] < 1:
        return False
    return pair_of(Fraction(*thing)) == thing


def plain_clash(riddle, one, other):
    return len(set(riddle[2][one][0] + riddle[2][other][0])) < len(riddle[2][one][0]) + len(riddle[2][other][0])


def plain_mended(riddle, filling):
    """All fillings to which the mending of the least broken wish may lead."""
    places = riddle[2][plain_broken(riddle, filling)[0]][0]
    return [other for other in all_fillings(riddle)
            if all(other[place] == filling[place] for place in range(riddle[0]) if place not in places)]


def plain_apart(riddle):
    found = []
    for filling in all_fillings(riddle):
        for one, other in itertools.combinations(plain_broken(riddle, filling), 2):
            if plain_clash(riddle, one, other):
                found.append((one, other, filling))
    return ("both",) + min(found) if found else ("apart",)


def some_apart(seed, number, many_wishes):
    """So many riddles whose wishes are apart, among them such as clash."""
    rng = chance(seed)
    told = []
    while len(told) < number:
        many, hues = rng.choice(SIZES)
        riddle = some_riddle(rng, many, hues, rng.randint(2, many_wishes), rng.randint(1, 3))
        pairs = itertools.combinations(range(len(riddle[2])), 2)
        if plain_apart(riddle) == ("apart",) and any(plain_clash(riddle, one, other) for one, other in pairs):
            told.append(riddle)
    return told
