"""The refusals: redraw/errors.py of the interface."""

import unittest

from redraw import errors
from redraw.errors import (
    DrawError, NoEnd, NoLog, NoName, NoRow, NoStep, NoTable, NoText, NoWish, Spent, Told, TooMany,
)

REFUSALS = (NoLog, NoStep, NoEnd, NoTable, NoWish, NoName, NoRow, NoText, TooMany, Told, Spent)


class Refusals(unittest.TestCase):
    def test_draw_error_is_a_value_error(self):
        self.assertTrue(issubclass(DrawError, ValueError))
        self.assertIn(ValueError, DrawError.__bases__)

    def test_draw_error_is_none_of_the_eleven(self):
        for refusal in REFUSALS:
            self.assertIsNot(DrawError, refusal)
            self.assertFalse(issubclass(DrawError, refusal))

    def test_each_is_straight_under_draw_error(self):
        for refusal in REFUSALS:
            self.assertEqual(refusal.__bases__, (DrawError,), refusal)

    def test_none_is_under_another(self):
        for one in REFUSALS:
            for other in REFUSALS:
                self.assertEqual(issubclass(one, other), one is other, (one, other))

    def test_there_are_eleven_unlike_ones(self):
        self.assertEqual(len(set(REFUSALS)), 11)

    def test_each_is_made_of_a_text(self):
        for refusal in (DrawError,) + REFUSALS:
            for text in ("", "why", "a longer text of why"):
                self.assertIn(text, str(refusal(text)))

    def test_each_is_caught_by_its_own_name_and_by_those_above(self):
        for refusal in REFUSALS:
            for above in (refusal, DrawError, ValueError):
                with self.assertRaises(above):
                    raise refusal("why")

    def test_each_stands_in_errors_under_its_own_name(self):
        names = "DrawError NoLog NoStep NoEnd NoTable NoWish NoName NoRow NoText TooMany Told Spent"
        for name in names.split():
            found = getattr(errors, name)
            self.assertEqual(found.__name__, name)
            self.assertEqual(found.__module__, "redraw.errors")


if __name__ == "__main__":
    unittest.main()
