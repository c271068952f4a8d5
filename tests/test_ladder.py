"""The calls ladder and price_for."""

import unittest

from tests.helper import ask, behind, last

SIDES = ("sell", "buy")
HUGE = 10 ** 18


def ladder(side, *orders):
    return last(("open", -100, 100), *orders, ("ladder", side))[1:]


class LadderTest(unittest.TestCase):
    def test_sellers_least_first(self):
        self.assertEqual(ladder(0, ("sell", 5, 9, 1), ("sell", 3, 9, 1), ("sell", -4, 9, 1), ("sell", 4, 4, 1)),
                         [3, 2, 4, 1])

    def test_sellers_with_p0_alike_by_p1(self):
        self.assertEqual(ladder(0, ("sell", 3, 9, 1), ("sell", 3, 3, 1), ("sell", 3, 8, 1), ("sell", 2, 10, 1)),
                         [4, 2, 3, 1])

    def test_sellers_with_p1_alike_by_p0(self):
        self.assertEqual(ladder(0, ("sell", 3, 9, 1), ("sell", 1, 9, 1), ("sell", 2, 9, 1)), [2, 3, 1])

    def test_buyers_greatest_first(self):
        self.assertEqual(ladder(1, ("buy", -5, 4, 1), ("buy", -5, 6, 1), ("buy", -9, -7, 1), ("buy", 5, 5, 1)),
                         [2, 4, 1, 3])

    def test_buyers_with_p1_alike_by_p0(self):
        self.assertEqual(ladder(1, ("buy", 3, 9, 1), ("buy", 9, 9, 1), ("buy", 4, 9, 1), ("buy", 0, 10, 1)),
                         [4, 2, 3, 1])

    def test_buyers_with_p0_alike_by_p1(self):
        self.assertEqual(ladder(1, ("buy", 3, 7, 1), ("buy", 3, 9, 1), ("buy", 3, 8, 1)), [2, 3, 1])

    def test_alike_by_order_of_entry(self):
        for number, side in enumerate(SIDES):
            self.assertEqual(ladder(number, (side, 3, 9, 1), (side, 3, 9, 5), (side, 3, 9, 2)), [1, 2, 3])

    def test_one_side_alone(self):
        mixed = (("sell", 3, 3, 1), ("buy", 3, 3, 1), ("sell", 1, 1, 1), ("buy", 4, 4, 1))
        self.assertEqual(ladder(0, *mixed), [3, 1])
        self.assertEqual(ladder(1, *mixed), [4, 2])
        self.assertEqual(ladder(0, ("buy", 3, 3, 1)), [])
        self.assertEqual(ladder(1, ("sell", 3, 3, 1)), [])
        self.assertEqual(ladder(0), [])

    def test_behind_move_by_order_of_entry(self):
        for number, side in enumerate(SIDES):
            start = (("open", 0, 9), (side, 3, 5, 1), (side, 3, 5, 1), (side, 3, 5, 1))
            self.assertEqual(behind(start, ("move", 1, 3, 5), ("ladder", number), ("move", 3, 4, 5), ("move", 3, 3, 5),
                                    ("ladder", number)),
                             [[0], [0, 2, 3, 1], [0], [0], [0, 2, 1, 3]])

    def test_behind_move_by_the_new_limits(self):
        start = (("open", 0, 9), ("sell", 3, 5, 1), ("sell", 4, 5, 1), ("buy", 3, 5, 1), ("buy", 3, 6, 1))
        self.assertEqual(behind(start, ("ladder", 0), ("move", 2, 0, 9), ("ladder", 0), ("ladder", 1),
                                ("move", 3, 6, 6), ("ladder", 1)),
                         [[0, 1, 2], [0], [0, 2, 1], [0, 4, 3], [0], [0, 3, 4]])

    def test_behind_cut_nothing_is_changed(self):
        for number, side in enumerate(SIDES):
            start = (("open", 0, 9), (side, 3, 5, 9), (side, 3, 5, 9), (side, 3, 5, 9))
            self.assertEqual(behind(start, ("cut", 1, 2), ("ladder", number), ("cut", 3, 1), ("ladder", number)),
                             [[0, 7], [0, 1, 2, 3], [0, 8], [0, 1, 2, 3]])

    def test_behind_cancel(self):
        for number, side in enumerate(SIDES):
            start = (("open", 0, 9), (side, 3, 5, 9), (side, 3, 5, 9), (side, 3, 5, 9), ("cancel", 1), (side, 3, 5, 9))
            self.assertEqual(last(*start, ("ladder", number)), [0, 2, 3, 4])

    def test_behind_mirror_merit_stays(self):
        start = (("open", 0, 9), ("sell", 3, 5, 1), ("sell", 1, 5, 1), ("buy", 3, 5, 1), ("sell", 1, 2, 1),
                 ("buy", 3, 6, 1), ("sell", 3, 5, 1), ("buy", 4, 5, 1), ("buy", 3, 5, 1))
        self.assertEqual(behind(start, ("ladder", 0), ("ladder", 1), ("mirror",), ("ladder", 0), ("ladder", 1)),
                         [[0, 4, 2, 1, 6], [0, 5, 7, 3, 8], [0], [0, 5, 7, 3, 8], [0, 4, 2, 1, 6]])

    def test_full_book(self):
        start = [("open", 0, 99)] + [("buy", k, k, 1) for k in range(64)]
        self.assertEqual(last(*start, ("ladder", 1)), [0] + list(range(64, 0, -1)))

    def test_sides_out_of_range(self):
        for side in (-1, 2, 3, HUGE, -HUGE):
            self.assertEqual(last(("open", 0, 9), ("ladder", side)), [-1])
            self.assertEqual(ask(("ladder", side)), [[-1]])

    def test_without_a_session(self):
        self.assertEqual(ask(("ladder", 0), ("ladder", 1)), [[-2], [-2]])


class PriceForTest(unittest.TestCase):
    # Sold: 1 at 10, 4 from 12 on, one more at each price from 14 to 16. Bought the other way round.
    SOLD = (("open", 10, 20), ("sell", 10, 10, 1), ("sell", 12, 12, 3), ("sell", 13, 16, 3), ("buy", 20, 20, 50))
    BOUGHT = (("open", 10, 20), ("buy", 20, 20, 1), ("buy", 18, 18, 3), ("buy", 14, 17, 3), ("sell", 10, 10, 50))

    def test_least_price_of_supply(self):
        self.assertEqual(behind(self.SOLD, *[("price_for", 0, v) for v in range(1, 9)]),
                         [[0, 10], [0, 12], [0, 12], [0, 12], [0, 14], [0, 15], [0, 16], [-3]])

    def test_greatest_price_of_demand(self):
        self.assertEqual(behind(self.BOUGHT, *[("price_for", 1, v) for v in range(1, 9)]),
                         [[0, 20], [0, 18], [0, 18], [0, 18], [0, 16], [0, 15], [0, 14], [-3]])

    def test_at_the_far_bound(self):
        # Only at H, or only at L, is there just as much.
        self.assertEqual(behind((("open", 0, 9), ("sell", 9, 9, 5), ("sell", 0, 0, 2)), ("price_for", 0, 2),
                                ("price_for", 0, 3), ("price_for", 0, 7), ("price_for", 0, 8)),
                         [[0, 0], [0, 9], [0, 9], [-3]])
        self.assertEqual(behind((("open", 0, 9), ("buy", 0, 0, 5), ("buy", 9, 9, 2)), ("price_for", 1, 2),
                                ("price_for", 1, 3), ("price_for", 1, 7), ("price_for", 1, 8)),
                         [[0, 9], [0, 0], [0, 0], [-3]])

    def test_bounds_of_one_price(self):
        start = (("open", -7, -7), ("sell", -7, -7, 5), ("buy", -7, -7, 6))
        self.assertEqual(behind(start, ("price_for", 0, 5), ("price_for", 0, 6), ("price_for", 1, 6),
                                ("price_for", 1, 7)),
                         [[0, -7], [-3], [0, -7], [-3]])

    def test_below_zero(self):
        self.assertEqual(last(("open", -20, -1), ("sell", -12, -8, 4), ("price_for", 0, 3)), [0, -9])
        self.assertEqual(last(("open", -20, -1), ("buy", -12, -8, 4), ("price_for", 1, 3)), [0, -11])

    def test_the_other_side_is_not_looked_at(self):
        self.assertEqual(last(("open", 0, 9), ("buy", 5, 5, 5), ("price_for", 0, 1)), [-3])
        self.assertEqual(last(("open", 0, 9), ("sell", 5, 5, 5), ("price_for", 1, 1)), [-3])

    def test_empty_book(self):
        self.assertEqual(behind((("open", 0, 9),), ("price_for", 0, 1), ("price_for", 1, 1)), [[-3], [-3]])

    def test_largest_volume(self):
        for number, side in enumerate(SIDES):
            start = [("open", -1000000, 1000000)] + [(side, 0, 10000, 1000000000)] * 64
            far = (10000, 0)[number]
            near = (1, 9999)[number]
            self.assertEqual(behind(start, ("price_for", number, 64000000000), ("price_for", number, 63999999999),
                                    ("price_for", number, 1), ("price_for", number, 6400000),
                                    ("price_for", number, 6400001), ("cut", 1, 999999999),
                                    ("price_for", number, 64000000000), ("price_for", number, 63999999999)),
                             [[0, far], [0, far], [0, near], [0, near], [0, (2, 9998)[number]], [0, 1], [-3], [0, far]])

    def test_out_of_range(self):
        for side, v in ((0, 0), (1, 0), (0, -1), (0, 64000000001), (1, 64000000001), (0, HUGE), (1, -HUGE), (-1, 1),
                        (2, 1), (HUGE, 1), (-HUGE, 1), (2, 0)):
            self.assertEqual(last(*self.SOLD, ("price_for", side, v)), [-1], (side, v))
            self.assertEqual(ask(("price_for", side, v)), [[-1]], (side, v))

    def test_without_a_session(self):
        self.assertEqual(ask(("price_for", 0, 1), ("price_for", 1, 64000000000)), [[-2], [-2]])

    def test_out_of_range_comes_before_too_much(self):
        self.assertEqual(behind((("open", 0, 9),), ("price_for", 0, 64000000000), ("price_for", 0, 64000000001)),
                         [[-3], [-1]])


if __name__ == "__main__":
    unittest.main()
