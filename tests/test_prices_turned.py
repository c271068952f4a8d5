"""The calls book, mirror and shift."""

import unittest

from tests.drawn import drawn_calls
from tests.helper import ask, behind, last

HUGE = 10 ** 18
FOUR = (("open", -3, 20), ("sell", 2, 9, 10), ("buy", 5, 5, 7), ("sell", -3, 0, 4), ("buy", 1, 20, 6))
TOLD = (("book",), ("range",), ("clear",), ("shares",), ("welfare",), ("ladder", 0), ("ladder", 1), ("gain", 1),
        ("surplus", 2), ("dual", 4))


class BookTest(unittest.TestCase):
    def test_each_order_in_order_of_entry(self):
        self.assertEqual(last(*FOUR, ("book",)),
                         [0, -3, 20, 1, 0, 2, 9, 10, 2, 1, 5, 5, 7, 3, 0, -3, 0, 4, 4, 1, 1, 20, 6])

    def test_empty_book(self):
        self.assertEqual(last(("open", -1000000, 1000000), ("book",)), [0, -1000000, 1000000])

    def test_follows_cancel_cut_and_move(self):
        self.assertEqual(behind(FOUR, ("cancel", 3), ("cut", 4, 1), ("move", 1, 6, 7), ("sell", 0, 0, 9), ("book",))[4],
                         [0, -3, 20, 2, 1, 5, 5, 7, 4, 1, 1, 20, 1, 1, 0, 6, 7, 10, 5, 0, 0, 0, 9])

    def test_full_book(self):
        start = [("open", 0, 9)] + [("buy", 1, 2, k + 1) for k in range(64)]
        expected = [0, 0, 9]
        for k in range(1, 65):
            expected += [k, 1, 1, 2, k]
        self.assertEqual(last(*start, ("book",)), expected)

    def test_refusals_change_nothing(self):
        refused = (("open", 1, 0), ("sell", -4, 0, 1), ("buy", 0, 21, 1), ("sell", 0, 0, 0), ("cancel", 5),
                   ("cut", 1, 10), ("cut", 5, 1), ("move", 1, -4, 0), ("move", 5, 0, 0), ("supply", 1000001),
                   ("share", 5), ("surplus", 5), ("gain", 0), ("ladder", 2), ("price_for", 0, 15), ("price_for", 2, 1),
                   ("check", 0, [1]), ("check", 1000001, [0] * 4), ("worth", [1]), ("worth", [1, 0, 0, 0]),
                   ("dual", -1000001), ("shift", 2000001), ("shift", 999981), ("shift", -999998))
        before = behind(FOUR, *TOLD)
        for call in refused:
            parts = behind(FOUR, call, *TOLD, ("sell", 0, 0, 1))
            self.assertLess(parts[0][0], 0, call)
            self.assertEqual(len(parts[0]), 1, call)
            self.assertEqual(parts[1:-1], before, call)
            self.assertEqual(parts[-1], [0, 5], call)

    def test_calls_that_only_tell_change_nothing(self):
        before = behind(FOUR, *TOLD)
        for call in TOLD + (("supply", 3), ("demand", 3), ("share", 1), ("price_for", 0, 3), ("check", 3, [0] * 4),
                            ("worth", [1, 1, 0, 0])):
            parts = behind(FOUR, call, *TOLD, ("sell", 0, 0, 1))
            self.assertEqual(parts[0][0], 0, call)
            self.assertEqual(parts[1:-1], before, call)
            self.assertEqual(parts[-1], [0, 5], call)

    def test_without_a_session(self):
        self.assertEqual(ask(("book",)), [[-2]])


class MirrorTest(unittest.TestCase):
    def test_turns_bounds_sides_and_limits(self):
        self.assertEqual(behind(FOUR, ("mirror",), ("book",)),
                         [[0], [0, -20, 3, 1, 1, -9, -2, 10, 2, 0, -5, -5, 7, 3, 1, 0, 3, 4, 4, 0, -20, -1, 6]])

    def test_empty_book(self):
        self.assertEqual(behind((("open", 2, 9),), ("mirror",), ("book",), ("range",), ("clear",)),
                         [[0], [0, -9, -2], [0, -9, -2], [0, -6, 0]])

    def test_twice_is_as_before(self):
        self.assertEqual(behind(FOUR, ("mirror",), ("mirror",), *TOLD)[2:], behind(FOUR, *TOLD))

    def test_supply_and_demand_change_over(self):
        for p in range(-22, 6):
            parts = behind(FOUR, ("supply", -p), ("demand", -p), ("mirror",), ("demand", p), ("supply", p))
            self.assertEqual(parts[:2], parts[3:], p)

    def test_price_is_rounded_down_behind_it_too(self):
        # Those that support go from 20 to 61, then from -61 to -20: halves are rounded down both times.
        start = (("open", 0, 100), ("sell", 20, 20, 5), ("buy", 61, 61, 5))
        self.assertEqual(behind(start, ("clear",), ("mirror",), ("range",), ("clear",), ("shares",)),
                         [[0, 40, 5], [0], [0, -61, -20], [0, -41, 5], [0, 5, 5]])

    def test_range_and_welfare_on_drawn_books(self):
        for seed in range(300):
            calls, expected, zone = drawn_calls(seed)
            parts = behind(calls, ("range",), ("welfare",), ("ladder", 0), ("ladder", 1), ("mirror",), ("range",),
                           ("welfare",), ("ladder", 1), ("ladder", 0))
            self.assertEqual(parts[5], [0, -parts[0][2], -parts[0][1]], seed)
            self.assertEqual(parts[1:4], parts[6:], seed)

    def test_orders_are_taken_within_the_turned_bounds(self):
        self.assertEqual(behind(FOUR, ("mirror",), ("sell", -20, -20, 1), ("sell", -21, -20, 1), ("buy", 3, 3, 1),
                                ("buy", 3, 4, 1), ("move", 1, -20, 3), ("move", 1, -20, 4)),
                         [[0], [0, 5], [-3], [0, 6], [-3], [0], [-4]])

    def test_numbers_and_order_of_entry_stay(self):
        start = (("open", 0, 9), ("sell", 5, 5, 7), ("sell", 5, 5, 7), ("buy", 9, 9, 1), ("mirror",))
        # The two buy now, and the earlier still gets the unit.
        self.assertEqual(behind(start, ("shares",), ("cancel", 3), ("sell", -9, -9, 1), ("shares",), ("share", 1)),
                         [[0, 1, 0, 1], [0, 1], [0, 4], [0, 1, 0, 1], [0, 1]])

    def test_widest_bounds(self):
        start = (("open", -1000000, 1000000), ("sell", -1000000, -990000, 5), ("buy", 1000000, 1000000, 3))
        self.assertEqual(behind(start, ("mirror",), ("book",)),
                         [[0], [0, -1000000, 1000000, 1, 1, 990000, 1000000, 5, 2, 0, -1000000, -1000000, 3]])

    def test_another_session_is_not_turned(self):
        self.assertEqual(behind(FOUR, ("mirror",), ("open", 1, 5), ("sell", 2, 3, 4), ("book",)),
                         [[0], [0], [0, 1], [0, 1, 5, 1, 0, 2, 3, 4]])

    def test_without_a_session(self):
        self.assertEqual(ask(("mirror",), ("open", 1, 2), ("book",)), [[-2], [0], [0, 1, 2]])


class ShiftTest(unittest.TestCase):
    def test_moves_bounds_and_limits(self):
        self.assertEqual(behind(FOUR, ("shift", -4), ("book",)),
                         [[0], [0, -7, 16, 1, 0, -2, 5, 10, 2, 1, 1, 1, 7, 3, 0, -7, -4, 4, 4, 1, -3, 16, 6]])

    def test_there_and_back_is_as_before(self):
        before = behind(FOUR, *TOLD)
        for d in (1, -1, 999980, -999997, 0):
            self.assertEqual(behind(FOUR, ("shift", d), ("shift", -d), *TOLD)[2:], before, d)

    def test_prices_move_and_amounts_stay_on_drawn_books(self):
        for seed in range(300):
            calls, expected, zone = drawn_calls(seed)
            d = 7 if zone.bounds[1] < 999993 else -7
            told = (("range",), ("clear",), ("shares",), ("welfare",), ("ladder", 0), ("ladder", 1))
            parts = behind(calls, *told, ("shift", d), *told)
            before, after = parts[:6], parts[7:]
            self.assertEqual(after[0], [0, before[0][1] + d, before[0][2] + d], seed)
            self.assertEqual(after[1], [0, before[1][1] + d, before[1][2]], seed)
            # As much is sold as bought, so what all are worth is the same.
            self.assertEqual(after[2:], before[2:], seed)

    def test_just_inside_and_just_outside(self):
        start = (("open", -3, 20), ("sell", 2, 9, 1))
        for d, answer in ((999980, [0]), (999981, [-3]), (-999997, [0]), (-999998, [-3]), (2000000, [-3]),
                          (-2000000, [-3]), (2000001, [-1]), (-2000001, [-1]), (HUGE, [-1]), (-HUGE, [-1]), (0, [0])):
            self.assertEqual(last(*start, ("shift", d)), answer, d)

    def test_furthest_shifts(self):
        start = (("open", -1000000, -1000000), ("sell", -1000000, -1000000, 5), ("buy", -1000000, -1000000, 3))
        self.assertEqual(behind(start, ("shift", 2000000), ("book",), ("clear",), ("shift", 1), ("shift", -2000000),
                                ("book",), ("shift", -1)),
                         [[0], [0, 1000000, 1000000, 1, 0, 1000000, 1000000, 5, 2, 1, 1000000, 1000000, 3],
                          [0, 1000000, 3], [-3], [0],
                          [0, -1000000, -1000000, 1, 0, -1000000, -1000000, 5, 2, 1, -1000000, -1000000, 3], [-3]])

    def test_widest_bounds_do_not_move(self):
        for d, answer in ((0, [0]), (1, [-3]), (-1, [-3])):
            self.assertEqual(last(("open", -1000000, 1000000), ("shift", d)), answer)

    def test_empty_book(self):
        self.assertEqual(behind((("open", 2, 9),), ("shift", -5), ("book",), ("clear",)), [[0], [0, -3, 4], [0, 0, 0]])

    def test_orders_are_taken_within_the_moved_bounds(self):
        self.assertEqual(behind(FOUR, ("shift", 100), ("sell", 97, 120, 1), ("sell", 96, 120, 1), ("buy", 97, 121, 1),
                                ("move", 2, 120, 120), ("move", 2, 120, 121), ("cancel", 1), ("book",)),
                         [[0], [0, 5], [-3], [-3], [0], [-4], [0, 10],
                          [0, 97, 120, 3, 0, 97, 100, 4, 4, 1, 101, 120, 6, 5, 0, 97, 120, 1, 2, 1, 120, 120, 7]])

    def test_behind_mirror(self):
        self.assertEqual(behind(FOUR, ("mirror",), ("shift", 17), ("book",)),
                         [[0], [0], [0, -3, 20, 1, 1, 8, 15, 10, 2, 0, 12, 12, 7, 3, 1, 17, 20, 4, 4, 0, -3, 16, 6]])
        self.assertEqual(behind(FOUR, ("mirror",), ("shift", 17), ("mirror",), ("shift", 17), *TOLD)[4:],
                         behind(FOUR, *TOLD))

    def test_without_a_session(self):
        self.assertEqual(ask(("shift", 2000000), ("shift", 2000001), ("shift", 0)), [[-2], [-1], [-2]])


if __name__ == "__main__":
    unittest.main()
