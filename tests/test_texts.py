"""Riddles written and read again: point 14."""

import collections
import copy
import itertools
import re
import unittest

from redraw import texts as module
from redraw.errors import NoText
from redraw.texts import read_riddle, show_riddle
from samples import ANYTHING, SIZES, chance, some_riddles

RIDDLES = [
    ((1, 2, ()), "places 1 hues 2"),
    ((4, 4, ()), "places 4 hues 4"),
    ((1, 2, (((0,), ((0,),)),)), "places 1 hues 2\nwish 0: 0"),
    ((2, 3, (((0, 1), ((0, 0),)), ((1,), ((1,),)))), "places 2 hues 3\nwish 0 1: 00\nwish 1: 1"),
    (
        (5, 3, (((0, 3, 4), ((0, 1, 2), (2, 0, 0), (2, 2, 2))), ((2,), ((0,), (1,), (2,))), ((1, 4), ((0, 2), (1, 0))))),
        "places 5 hues 3\nwish 0 3 4: 012 200 222\nwish 2: 0 1 2\nwish 1 4: 02 10",
    ),
    ((6, 2, (((5,), ((1,),)),) * 8), "places 6 hues 2" + "\nwish 5: 1" * 8),
    ((4, 4, (((1, 3), ((3, 3),)), ((1, 3), ((3, 3),)))), "places 4 hues 4\nwish 1 3: 33\nwish 1 3: 33"),
]

NO_TEXTS = [
    "", " ", "\n", "\t", "places", "places 1", "places 1 hues", "places 1 hues ", "hues 2", "places 1 hues 2 ", " places 1 hues 2",
    "places 1 hues 2\n", "\nplaces 1 hues 2", "places 1 hues 2\n\n", "places  1 hues 2", "places 1  hues 2", "places 1 hues  2",
    "places\t1 hues 2", "places\n1 hues 2", "places 1\nhues 2", "places 1 hues 2\t", "places 1 hues 2.", "places 1 hues 2:",
    "Places 1 hues 2", "PLACES 1 HUES 2", "places 1 hue 2", "place 1 hues 2", "hues 2 places 1", "hues 1 places 2",
    "places 1, hues 2", "places: 1 hues: 2", "places 1 hues 2 hues 2", "places one hues two", "places 1 hues 2 / wish 0: 0",
    "places 0 hues 2", "places 7 hues 2", "places 1 hues 1", "places 1 hues 5", "places 6 hues 3", "places 5 hues 4",
    "places 01 hues 2", "places 1 hues 02", "places +1 hues 2", "places 1 hues +2", "places -1 hues 2", "places 1.0 hues 2",
    "places 1_ hues 2", "places 0x1 hues 2", "places 1 hues 2.", "places 11 hues 2", "places 1 hues 23", "places 12 hues 2",
    "places 1 hues 1e1", "places " + "1" * 3000 + " hues 2", "places 1 hues " + "2" * 3000, "places hues 1 2",
    "places  hues 2", "places 1 hues  ", "places   ", "   ", "wish 0: 0", "wish 0: 0\nplaces 1 hues 2",
]

# What is written behind the first row of a riddle of three places and three hues.
NO_WISHES = [
    "", " ", "wish", "wish ", "wish:", "wish :", "wish : ", "wish 0", "wish 0:", "wish 0: ", "wish 0 0", "wish 0 : 0", "wish 0:0",
    "wish 0:  0", "wish  0: 0", "wish 0: 0 ", " wish 0: 0", "wish 0: 0\n", "\nwish 0: 0", "wish 0: 0\n\nwish 0: 0",
    "wish 0: 0\nwish 0: 0\n", "wish 0\t: 0", "wish\t0: 0", "wish 0:\t0", "wish 0:\n0", "wish\n0: 0", "wish 0: 0\t", "wish 0: 0\t1",
    "Wish 0: 0", "WISH 0: 0", "wis 0: 0", "wishes 0: 0", "0: 0", "0 wish: 0", "wish wish 0: 0", "wish 0: 0:", "wish 0:: 0",
    "wish 0: 0: 0", "wish 0; 0", "wish 0. 0", "wish 0 - 0", "wish 0 0: 00", "wish 1 0: 00", "wish 01: 00", "wish 0,1: 00",
    "wish 0, 1: 00", "wish 0  1: 00", "wish 0\t1: 00", "wish 0 1 : 00", "wish 0 1:00", "wish 0 1: 0 0", "wish 0 1: 0,0", "wish 0 1: 0",
    "wish 0 1: 000", "wish 0: 00", "wish 0 1: 01 00", "wish 0 1: 00 00", "wish 0 1: 00  01", "wish 0 1: 00\t01", "wish 0 1: 00,01",
    "wish 0 1: 00 1", "wish 0 1: 00 011", "wish 0 1: (0, 0)", "wish 3: 0", "wish 0 3: 00", "wish 9: 0", "wish 10: 0", "wish -1: 0",
    "wish +0: 0", "wish 00: 0", "wish 0: 3", "wish 0: 9", "wish 0: -1", "wish 0: +1", "wish 0: 1 0", "wish 0: 0 0", "wish 0: 0 1 1",
    "wish 0: a", "wish a: 0", "wish 0 1: 0a", "wish 0 1: a0", "wish 0: 0 / wish 1: 0", "wish 0: 0 wish 1: 0", "wish 0 1 2 2: 0000",
    "places 3 hues 3", "wish 0: 0\nplaces 3 hues 3", "wish 0: 0.", "wish 0: 0,", "wish 0: 0;", "wish 0: ,0", "wish 0: 0/1",
    "wish 0 1: 03", "wish 0 1: 30", "wish 0 1: 02 12 03", "~", "wish ~: 0", "wish 0: ~", "wish 2: 0 2 1", "wish 0 2 1: 000",
]


def plain_read(text):
    """The riddle of a text, or None, by patterns."""
    found = re.fullmatch(r"places ([1-6]) hues ([2-4])((?:\nwish [0-5](?: [0-5])*:(?: [0-3]+)+)*)", text)
    if found is None:
        return None
    many, hues = int(found[1]), int(found[2])
    wishes = []
    for line in found[3].split("\n")[1:]:
        places, rows = line[len("wish "):].split(":")
        places = [int(place) for place in places.split()]
        rows = rows.split()
        right = places == sorted(set(places)) and len(places) <= 3 and places[-1] < many and rows == sorted(set(rows))
        if not right or any(len(row) != len(places) or int(max(row)) >= hues for row in rows):
            return None
        wishes.append((tuple(places), tuple(tuple(int(hue) for hue in row) for row in rows)))
    if (many, hues) not in SIZES or len(wishes) > 8:
        return None
    return many, hues, tuple(wishes)


def changed(text, signs):
    """Texts with one sign fewer, doubled, exchanged with the next, another one or one more."""
    for at in range(len(text)):
        yield text[:at] + text[at + 1:]
        yield text[:at] + text[at] + text[at:]
        yield text[:at] + text[at:at + 2][::-1] + text[at + 2:]
        for sign in signs:
            yield text[:at] + sign + text[at + 1:]
            yield text[:at] + sign + text[at:]
    for sign in signs:
        yield text + sign


class Case(unittest.TestCase):
    def check_refused(self, text):
        with self.assertRaises(NoText) as caught:
            read_riddle(text)
        self.assertIs(type(caught.exception), NoText, text)

    def check_reading(self, text):
        expected = plain_read(text)
        if expected is None:
            self.check_refused(text)
            return False
        told = read_riddle(text)
        self.assertEqual(told, expected)
        self.assertEqual(show_riddle(told), text)
        return True


class ByHand(Case):
    def test_written(self):
        for riddle, text in RIDDLES:
            self.assertEqual(show_riddle(riddle), text)
            self.assertIs(type(show_riddle(riddle)), str)

    def test_read(self):
        for riddle, text in RIDDLES:
            told = read_riddle(text)
            self.assertEqual(told, riddle)
            self.assertEqual(repr(told), repr(riddle))

    def test_no_texts(self):
        for text in NO_TEXTS:
            self.check_refused(text)
            self.check_refused(text + "\nwish 0: 0")

    def test_no_wishes(self):
        for line in NO_WISHES:
            self.check_refused("places 3 hues 3\n" + line)
            self.check_refused("places 3 hues 3\nwish 0: 0\n" + line)
            self.check_refused("places 3 hues 3\n" + line + "\nwish 0: 0")

    def test_more_than_eight_wishes(self):
        for number in range(12):
            text = "places 1 hues 2" + "\nwish 0: 0" * number
            if number <= 8:
                self.assertEqual(read_riddle(text), (1, 2, (((0,), ((0,),)),) * number))
            else:
                self.check_refused(text)

    def test_all_sizes(self):
        for many, hues in itertools.product(range(10), repeat=2):
            text = f"places {many} hues {hues}"
            if (many, hues) in SIZES:
                self.assertEqual(read_riddle(text), (many, hues, ()))
            else:
                self.check_refused(text)

    def test_what_is_no_text(self):
        for thing in ANYTHING + [(1, 2, ()), ["places 1 hues 2"], ("places 1 hues 2",), {"places 1 hues 2": 0}, 12]:
            ahead = repr(thing)
            self.check_refused(thing)
            self.assertEqual(repr(thing), ahead)

    def test_long_texts(self):
        for text in ("\n" * 4000, " " * 4000, "0" * 4000, "wish 0: 0\n" * 400, "places 1 hues 2\n" * 200, ": " * 2000):
            self.check_refused(text)
            self.check_refused("places 1 hues 2\n" + text)
            self.check_refused("places 1 hues 2\nwish " + text)
            self.check_refused("places 1 hues 2\nwish 0: " + text)

    def test_the_longest_riddle(self):
        rows = tuple(itertools.product(range(4), repeat=3))
        riddle = (4, 4, (((0, 1, 2), rows),) * 8)
        self.assertEqual(read_riddle(show_riddle(riddle)), riddle)


class WrittenAndRead(Case):
    def test_all_small_riddles(self):
        wishes = []
        for places in [(0,), (1,), (0, 1)]:
            rows = list(itertools.product(range(2), repeat=len(places)))
            for number in range(1, len(rows) + 1):
                wishes += [(places, chosen) for chosen in itertools.combinations(rows, number)]
        for number in range(3):
            for chosen in itertools.product(wishes, repeat=number):
                self.assertEqual(read_riddle(show_riddle((2, 2, chosen))), (2, 2, chosen))

    def test_riddles_of_all_sizes(self):
        texts = {}
        for seed, most_rows in [(1401, None), (1402, 1), (1403, 3)]:
            for riddle in some_riddles(seed, most_rows):
                ahead = copy.deepcopy(riddle)
                text = show_riddle(riddle)
                self.assertEqual(riddle, ahead)
                self.assertEqual(plain_read(text), riddle)
                self.assertEqual(read_riddle(text), riddle)
                self.assertEqual(texts.setdefault(text, riddle), riddle)

    def test_texts_with_one_sign_changed(self):
        seen = collections.Counter()
        for _, text in RIDDLES:
            for other in changed(text, "0123456789 :\n\t/wa-+_."):
                seen[self.check_reading(other)] += 1
        self.assertGreater(seen[True], 50)
        self.assertGreater(seen[False], 1000)

    def test_texts_changed_twice(self):
        rng = chance(1404)
        texts = [show_riddle(riddle) for riddle in rng.sample(some_riddles(1405, 2), 30)]
        seen = collections.Counter()
        for text in texts:
            for other in rng.sample(list(changed(text, "012345 :\n")), 40):
                seen[self.check_reading(other)] += 1
                seen[self.check_reading(rng.choice(list(changed(other, "012345 :\n"))))] += 1
        self.assertGreater(min(seen.values()), 50)

    def test_rows_of_texts_exchanged_and_joined(self):
        rng = chance(1406)
        lines = [line for riddle in some_riddles(1407, 3) for line in show_riddle(riddle).split("\n")]
        seen = collections.Counter()
        for _ in range(4000):
            chosen = rng.sample(lines, rng.randint(1, 3))
            seen[self.check_reading("\n".join(sorted(chosen)))] += 1
        self.assertGreater(min(seen.values()), 50)


class Interface(unittest.TestCase):
    def test_it_stands_in_its_file(self):
        for name in ("show_riddle", "read_riddle"):
            self.assertEqual(getattr(module, name).__module__, "redraw.texts")


if __name__ == "__main__":
    unittest.main()
