"""The call open, and -2 before it."""

import unittest

from tests.helper import ask

NEED_A_SESSION = [
    ("sell", 0, 1, 1), ("buy", 0, 1, 1), ("cancel", 1), ("cut", 1, 1), ("move", 1, 0, 1), ("supply", 0),
    ("demand", 0), ("range",), ("clear",), ("shares",), ("share", 1), ("surplus", 1), ("welfare",), ("gain", 1),
    ("ladder", 0), ("price_for", 1, 1), ("check", 0, []), ("worth", []), ("dual", 0), ("book",), ("mirror",),
    ("shift", 0),
]
OUT_OF_RANGE = [
    ("sell", 1, 0, 1), ("buy", 0, 1, 0), ("cancel", 10 ** 18 + 1), ("cut", 1, 0), ("move", 1, 1, 0),
    ("supply", 1000001), ("demand", -1000001), ("share", -10 ** 18 - 1), ("surplus", 10 ** 18 + 1),
    ("gain", -10 ** 18 - 1), ("ladder", 2), ("price_for", 0, 0), ("check", 1000001, []), ("check", 0, [-1]),
    ("worth", [0] * 65), ("dual", 1000001), ("shift", -2000001),
]


class OpenTest(unittest.TestCase):
    def test_answers_nothing_more(self):
        self.assertEqual(ask(("open", -3, 7)), [[0]])

    def test_bounds_just_inside(self):
        for low, high in ((-1000000, 1000000), (-1000000, -1000000), (1000000, 1000000), (0, 0), (-1, 0)):
            self.assertEqual(ask(("open", low, high), ("range",)), [[0], [0, low, high]])

    def test_bounds_just_outside(self):
        for low, high in ((-1000001, 0), (0, 1000001), (1, 0), (0, -1), (1000001, 1000001),
                          (-1000001, -1000001), (-10 ** 18, 10 ** 18), (10 ** 18, 10 ** 18)):
            self.assertEqual(ask(("open", low, high), ("range",)), [[-1], [-2]])

    def test_bounds_may_be_further_apart_than_limits(self):
        self.assertEqual(ask(("open", 0, 10001)), [[0]])

    def test_every_other_call_needs_a_session(self):
        for call in NEED_A_SESSION:
            self.assertEqual(ask(call), [[-2]], call)

    def test_out_of_range_is_looked_at_before_no_session(self):
        for call in OUT_OF_RANGE:
            self.assertEqual(ask(call), [[-1]], call)

    def test_calls_refused_without_a_session_leave_nothing_behind(self):
        parts = ask(("sell", 0, 1, 1), ("buy", 0, 1, 1), ("open", 0, 9), ("shares",), ("sell", 0, 1, 1))
        self.assertEqual(parts, [[-2], [-2], [0], [0], [0, 1]])

    def test_refused_calls_open_no_session(self):
        for call in NEED_A_SESSION + OUT_OF_RANGE:
            self.assertEqual(ask(call, ("book",))[1], [-2], call)

    def test_second_open_begins_anew(self):
        parts = ask(("open", 0, 9), ("sell", 1, 1, 5), ("buy", 8, 8, 5), ("open", -4, 4), ("shares",), ("range",),
                    ("share", 1), ("supply", 9), ("sell", 9, 9, 1), ("sell", -4, 4, 2))
        self.assertEqual(parts[3:], [[0], [0], [0, -4, 4], [-3], [0, 0], [-3], [0, 1]])

    def test_second_open_that_is_refused_leaves_the_session(self):
        parts = ask(("open", 0, 9), ("sell", 1, 1, 5), ("open", 4, 3), ("open", -1000001, 3), ("supply", 1),
                    ("range",), ("sell", 0, 9, 1))
        self.assertEqual(parts[2:], [[-1], [-1], [0, 5], [0, 0, 1], [0, 2]])


if __name__ == "__main__":
    unittest.main()
