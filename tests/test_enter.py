"""The calls sell and buy."""

import unittest

from tests.helper import ask, last

SIDES = ("sell", "buy")
WIDEST = ("open", -1000000, 1000000)


def full_book():
    return [("open", 0, 100)] + [(SIDES[k % 2], 10, 20, 1) for k in range(64)]


class EnterTest(unittest.TestCase):
    def test_numbers_go_up_over_both_sides(self):
        parts = ask(("open", 0, 9), ("sell", 0, 1, 1), ("buy", 0, 1, 1), ("buy", 9, 9, 1), ("sell", 0, 9, 1))
        self.assertEqual(parts[1:], [[0, 1], [0, 2], [0, 3], [0, 4]])

    def test_limits_just_inside(self):
        for side in SIDES:
            for p0, p1 in ((-1000000, -1000000), (1000000, 1000000), (0, 10000), (-10000, 0), (990000, 1000000),
                           (-1000000, -990000), (3, 3), (3, 4)):
                self.assertEqual(last(WIDEST, (side, p0, p1, 1)), [0, 1], (side, p0, p1))

    def test_limits_just_outside(self):
        for side in SIDES:
            for p0, p1 in ((-1000001, -1000000), (-1000001, -1000001), (1000000, 1000001), (1000001, 1000001),
                           (0, 10001), (-10001, 0), (-5000, 5001), (4, 3), (-3, -4), (-10 ** 18, 10 ** 18)):
                self.assertEqual(last(WIDEST, (side, p0, p1, 1)), [-1], (side, p0, p1))

    def test_amounts(self):
        for side in SIDES:
            for q, answer in ((1, [0, 1]), (1000000000, [0, 1]), (0, [-1]), (-1, [-1]), (1000000001, [-1]),
                              (10 ** 18, [-1]), (-10 ** 18, [-1])):
                self.assertEqual(last(WIDEST, (side, 0, 1, q)), answer, (side, q))

    def test_limits_on_the_bounds_are_taken(self):
        for side in SIDES:
            for p0, p1 in ((10, 20), (10, 10), (20, 20), (11, 19)):
                self.assertEqual(last(("open", 10, 20), (side, p0, p1, 1)), [0, 1])

    def test_limits_outside_the_bounds_are_refused(self):
        for side in SIDES:
            for p0, p1 in ((9, 20), (10, 21), (9, 9), (21, 21), (9, 21), (0, 5), (30, 40)):
                self.assertEqual(last(("open", 10, 20), (side, p0, p1, 1)), [-3], (side, p0, p1))

    def test_bounds_of_one_price(self):
        parts = ask(("open", -7, -7), ("sell", -7, -7, 3), ("buy", -7, -7, 2), ("sell", -8, -7, 1), ("buy", -7, -6, 1))
        self.assertEqual(parts[1:], [[0, 1], [0, 2], [-3], [-3]])

    def test_out_of_range_comes_before_outside_the_bounds(self):
        for side in SIDES:
            self.assertEqual(last(("open", 10, 20), (side, 0, 30, 0)), [-1])
            self.assertEqual(last(("open", 10, 20), (side, 30, 5, 1)), [-1])

    def test_book_takes_64_orders(self):
        parts = ask(*full_book(), ("shares",))
        self.assertEqual([part[1] for part in parts[1:65]], list(range(1, 65)))
        self.assertEqual(len(parts[65]), 65)

    def test_book_of_64_orders_takes_no_more(self):
        for side in SIDES:
            parts = ask(*full_book(), (side, 10, 20, 1), ("shares",), ("share", 65), ("supply", 100), ("demand", 0))
            self.assertEqual(parts[65], [-4])
            self.assertEqual(len(parts[66]), 65)
            self.assertEqual(parts[67:], [[-3], [0, 32], [0, 32]])

    def test_full_book_is_looked_at_last(self):
        for side in SIDES:
            parts = ask(*full_book(), (side, 10, 101, 1), (side, -1, 20, 1), (side, 20, 10, 1), (side, 10, 20, 0))
            self.assertEqual(parts[65:], [[-3], [-3], [-1], [-1]])

    def test_a_place_that_is_free_again_is_taken_and_numbers_go_on(self):
        parts = ask(*full_book(), ("buy", 0, 0, 1), ("cancel", 64), ("buy", 0, 0, 1), ("sell", 0, 0, 1))
        self.assertEqual(parts[65:], [[-4], [0, 1], [0, 65], [-4]])

    def test_refused_orders_use_up_no_number(self):
        parts = ask(("open", 0, 9), ("sell", 0, 10, 1), ("buy", 3, 2, 1), ("sell", 1, 2, 0), ("buy", -1, 2, 1),
                    ("shares",), ("sell", 0, 1, 1), ("buy", 0, 10, 1), ("buy", 0, 1, 1))
        self.assertEqual(parts[1:], [[-3], [-1], [-1], [-3], [0], [0, 1], [-3], [0, 2]])


if __name__ == "__main__":
    unittest.main()
