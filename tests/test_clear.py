"""The calls range and clear: the prices that support, the price and the volume."""

import unittest

from tests.helper import ask


def outcome(low, high, *orders):
    """Least, greatest, the price and the volume."""
    parts = ask(("open", low, high), *orders, ("range",), ("clear",))
    for part in parts:
        if part[0] != 0:
            raise AssertionError(parts)
    return tuple(parts[-2][1:] + parts[-1][1:])


class ClearTest(unittest.TestCase):
    def test_empty_book(self):
        self.assertEqual(outcome(0, 10), (0, 10, 5, 0))
        self.assertEqual(outcome(-1000000, 1000000), (-1000000, 1000000, 0, 0))
        self.assertEqual(outcome(4, 4), (4, 4, 4, 0))

    def test_halves_are_rounded_down(self):
        self.assertEqual(outcome(0, 3), (0, 3, 1, 0))
        self.assertEqual(outcome(-3, 0), (-3, 0, -2, 0))
        self.assertEqual(outcome(-2, -1), (-2, -1, -2, 0))
        self.assertEqual(outcome(-1, 0), (-1, 0, -1, 0))
        self.assertEqual(outcome(-1000000, -999999), (-1000000, -999999, -1000000, 0))

    def test_sellers_alone(self):
        self.assertEqual(outcome(0, 10, ("sell", 6, 6, 5)), (0, 6, 3, 0))
        self.assertEqual(outcome(0, 10, ("sell", 0, 0, 5)), (0, 0, 0, 0))
        self.assertEqual(outcome(0, 10, ("sell", 2, 6, 4)), (0, 3, 1, 0))

    def test_buyers_alone(self):
        self.assertEqual(outcome(0, 10, ("buy", 6, 6, 5)), (6, 10, 8, 0))
        self.assertEqual(outcome(0, 10, ("buy", 10, 10, 5)), (10, 10, 10, 0))
        self.assertEqual(outcome(0, 10, ("buy", 2, 6, 4)), (5, 10, 7, 0))

    def test_one_of_each(self):
        self.assertEqual(outcome(0, 100, ("sell", 20, 20, 5), ("buy", 60, 60, 5)), (20, 60, 40, 5))
        self.assertEqual(outcome(0, 100, ("sell", 20, 20, 5), ("buy", 61, 61, 5)), (20, 61, 40, 5))
        self.assertEqual(outcome(0, 100, ("sell", 20, 20, 6), ("buy", 60, 60, 5)), (20, 20, 20, 5))
        self.assertEqual(outcome(0, 100, ("sell", 20, 20, 5), ("buy", 60, 60, 6)), (60, 60, 60, 5))

    def test_nobody_agrees(self):
        self.assertEqual(outcome(0, 100, ("sell", 60, 60, 5), ("buy", 20, 20, 5)), (20, 60, 40, 0))

    def test_limits_at_the_same_price(self):
        self.assertEqual(outcome(0, 100, ("sell", 50, 50, 5), ("buy", 50, 50, 3)), (50, 50, 50, 3))
        self.assertEqual(outcome(0, 100, ("sell", 50, 50, 3), ("buy", 50, 50, 5)), (50, 50, 50, 3))

    def test_slanting_orders_cross(self):
        self.assertEqual(outcome(0, 100, ("sell", 0, 10, 100), ("buy", 0, 10, 100)), (5, 5, 5, 50))
        self.assertEqual(outcome(0, 100, ("sell", 0, 9, 90), ("buy", 0, 9, 90)), (4, 5, 4, 40))
        self.assertEqual(outcome(-9, 0, ("sell", -9, 0, 90), ("buy", -9, 0, 90)), (-5, -4, -5, 40))

    def test_volume_where_demand_is_less(self):
        self.assertEqual(outcome(-5, 20, ("sell", 0, 10, 100), ("buy", 5, 5, 35)), (4, 4, 4, 35))
        self.assertEqual(outcome(-5, 20, ("sell", 0, 10, 100), ("buy", 5, 5, 30)), (3, 4, 3, 30))

    def test_volume_where_supply_is_less(self):
        self.assertEqual(outcome(-5, 20, ("buy", 0, 10, 100), ("sell", 5, 5, 35)), (6, 6, 6, 35))
        self.assertEqual(outcome(-5, 20, ("buy", 0, 10, 100), ("sell", 5, 5, 30)), (6, 7, 6, 30))

    def test_pushed_to_a_bound(self):
        self.assertEqual(outcome(5, 10, ("sell", 5, 5, 9), ("buy", 5, 5, 4)), (5, 5, 5, 4))
        self.assertEqual(outcome(5, 10, ("sell", 10, 10, 4), ("buy", 10, 10, 9)), (10, 10, 10, 4))

    def test_range_ends_at_the_bounds(self):
        self.assertEqual(outcome(20, 60, ("sell", 20, 20, 5), ("buy", 60, 60, 5)), (20, 60, 40, 5))

    def test_bounds_of_one_price(self):
        self.assertEqual(outcome(-7, -7, ("sell", -7, -7, 5), ("buy", -7, -7, 8)), (-7, -7, -7, 5))

    def test_small_amounts_on_long_stretches(self):
        self.assertEqual(outcome(0, 10000, ("sell", 0, 10000, 1), ("buy", 0, 10000, 1)), (0, 10000, 5000, 0))
        self.assertEqual(outcome(0, 10000, ("sell", 0, 10000, 2), ("buy", 0, 10000, 2)), (5000, 5000, 5000, 1))

    def test_nothing_is_changed(self):
        parts = ask(("open", 0, 9), ("sell", 1, 4, 5), ("buy", 2, 8, 5), ("clear",), ("range",), ("shares",),
                    ("clear",), ("range",), ("shares",), ("supply", 9), ("demand", 0), ("sell", 0, 0, 1))
        self.assertEqual(parts[3:6], parts[6:9])
        self.assertEqual(parts[9:], [[0, 5], [0, 5], [0, 3]])

    def test_follows_cancel_cut_and_move(self):
        parts = ask(("open", 0, 100), ("sell", 20, 20, 5), ("buy", 60, 60, 5), ("clear",), ("cut", 1, 4), ("clear",),
                    ("move", 1, 70, 70), ("clear",), ("cancel", 2), ("range",), ("clear",))
        self.assertEqual([parts[3], parts[5], parts[7], parts[9], parts[10]],
                         [[0, 40, 5], [0, 60, 4], [0, 65, 0], [0, 0, 70], [0, 35, 0]])

    def test_without_a_session(self):
        self.assertEqual(ask(("range",), ("clear",)), [[-2], [-2]])


if __name__ == "__main__":
    unittest.main()
