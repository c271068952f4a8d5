"""The calls supply and demand: what orders are ready for at a price."""

import unittest

from tests.helper import ask, last


def along(call, order, bounds, prices):
    """What the one order gives at each of the prices."""
    parts = ask(("open",) + bounds, order, *[(call, p) for p in prices])
    return [part[1] for part in parts[2:]]


class SupplyTest(unittest.TestCase):
    def test_between_the_limits_rounded_down(self):
        self.assertEqual(along("supply", ("sell", 2, 9, 10), (0, 20), range(0, 12)),
                         [0, 0, 0, 1, 2, 4, 5, 7, 8, 10, 10, 10])

    def test_limits_below_zero(self):
        self.assertEqual(along("supply", ("sell", -5, -2, 10), (-9, 9), range(-7, 1)), [0, 0, 0, 3, 6, 10, 10, 10])

    def test_limits_around_zero(self):
        self.assertEqual(along("supply", ("sell", -2, 2, 7), (-9, 9), range(-3, 4)), [0, 0, 1, 3, 5, 7, 7])

    def test_limits_alike(self):
        self.assertEqual(along("supply", ("sell", 4, 4, 10), (0, 9), (3, 4, 5)), [0, 10, 10])
        self.assertEqual(along("supply", ("sell", -4, -4, 10), (-9, 9), (-5, -4, -3)), [0, 10, 10])

    def test_limits_one_apart(self):
        self.assertEqual(along("supply", ("sell", 4, 5, 10), (0, 9), (3, 4, 5, 6)), [0, 0, 10, 10])

    def test_amount_smaller_than_the_stretch(self):
        self.assertEqual(along("supply", ("sell", 0, 10, 1), (0, 20), (1, 9, 10, 11)), [0, 0, 1, 1])

    def test_buying_orders_give_nothing(self):
        self.assertEqual(along("supply", ("buy", 4, 5, 10), (0, 9), (-9, 4, 5, 99)), [0, 0, 0, 0])

    def test_orders_are_added_up(self):
        parts = ask(("open", 0, 9), ("sell", 0, 3, 10), ("buy", 0, 9, 100), ("sell", 0, 3, 10), ("sell", 1, 1, 5),
                    ("supply", 0), ("supply", 1), ("supply", 2), ("supply", 3))
        self.assertEqual(parts[5:], [[0, 0], [0, 11], [0, 17], [0, 25]])


class DemandTest(unittest.TestCase):
    def test_between_the_limits_rounded_down(self):
        self.assertEqual(along("demand", ("buy", 2, 9, 10), (0, 20), range(0, 12)),
                         [10, 10, 10, 8, 7, 5, 4, 2, 1, 0, 0, 0])

    def test_limits_below_zero(self):
        self.assertEqual(along("demand", ("buy", -5, -2, 10), (-9, 9), range(-7, 1)), [10, 10, 10, 6, 3, 0, 0, 0])

    def test_limits_around_zero(self):
        self.assertEqual(along("demand", ("buy", -2, 2, 7), (-9, 9), range(-3, 4)), [7, 7, 5, 3, 1, 0, 0])

    def test_limits_alike(self):
        self.assertEqual(along("demand", ("buy", 4, 4, 10), (0, 9), (3, 4, 5)), [10, 10, 0])
        self.assertEqual(along("demand", ("buy", -4, -4, 10), (-9, 9), (-5, -4, -3)), [10, 10, 0])

    def test_limits_one_apart(self):
        self.assertEqual(along("demand", ("buy", 4, 5, 10), (0, 9), (3, 4, 5, 6)), [10, 10, 0, 0])

    def test_selling_orders_ask_for_nothing(self):
        self.assertEqual(along("demand", ("sell", 4, 5, 10), (0, 9), (-9, 4, 5, 99)), [0, 0, 0, 0])

    def test_orders_are_added_up(self):
        parts = ask(("open", 0, 9), ("buy", 0, 3, 10), ("sell", 0, 9, 100), ("buy", 0, 3, 10), ("buy", 1, 1, 5),
                    ("demand", 0), ("demand", 1), ("demand", 2), ("demand", 3))
        self.assertEqual(parts[5:], [[0, 25], [0, 17], [0, 6], [0, 0]])


class BothTest(unittest.TestCase):
    def test_prices_outside_the_bounds(self):
        start = (("open", 10, 20), ("sell", 10, 20, 9), ("buy", 10, 20, 7), ("sell", 10, 10, 1), ("buy", 20, 20, 2))
        for p, supply, demand in ((9, 0, 9), (-1000000, 0, 9), (21, 10, 0), (1000000, 10, 0), (10, 1, 9), (20, 10, 2)):
            self.assertEqual(ask(*start, ("supply", p), ("demand", p))[5:], [[0, supply], [0, demand]], p)

    def test_empty_book(self):
        for p in (-1000000, 0, 5, 1000000):
            self.assertEqual(ask(("open", 0, 9), ("supply", p), ("demand", p))[1:], [[0, 0], [0, 0]])

    def test_prices_out_of_range(self):
        for call in ("supply", "demand"):
            for p in (-1000001, 1000001, 10 ** 18, -10 ** 18):
                self.assertEqual(last(("open", 0, 9), (call, p)), [-1])

    def test_without_a_session(self):
        for call in ("supply", "demand"):
            self.assertEqual(ask((call, 1000000), (call, 1000001)), [[-2], [-1]])

    def test_large_amounts_are_not_rounded_otherwise(self):
        start = (("open", -5000, 5000), ("sell", -5000, 5000, 999999999), ("buy", -5000, 5000, 999999999))
        parts = ask(*start, ("supply", 4999), ("supply", -4999), ("demand", 4999), ("demand", -4999))
        self.assertEqual(parts[3:], [[0, 999899999], [0, 99999], [0, 99999], [0, 999899999]])

    def test_sum_of_the_largest_amounts(self):
        orders = [("sell", 0, 0, 1000000000)] * 64
        self.assertEqual(last(("open", 0, 0), *orders, ("supply", 0)), [0, 64000000000])


if __name__ == "__main__":
    unittest.main()
