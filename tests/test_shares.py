"""The calls shares and share."""

import unittest

from tests.helper import ask, last

NO_SUCH = (0, -1, 4, 65, 10 ** 18, -10 ** 18)
NO_NUMBER = (10 ** 18 + 1, -10 ** 18 - 1)


def shares(low, high, *orders):
    return last(("open", low, high), *orders, ("shares",))[1:]


class SharesTest(unittest.TestCase):
    def test_empty_book(self):
        self.assertEqual(last(("open", 0, 9), ("shares",)), [0])

    def test_one_side_alone_gets_nothing(self):
        self.assertEqual(shares(0, 9, ("sell", 0, 0, 5), ("sell", 3, 8, 5)), [0, 0])
        self.assertEqual(shares(0, 9, ("buy", 9, 9, 5), ("buy", 3, 8, 5)), [0, 0])

    def test_nothing_at_the_money(self):
        # The price is 5: all is sure on both sides, so w is 0 and no unit is missing.
        self.assertEqual(shares(0, 9, ("sell", 1, 1, 5), ("buy", 9, 9, 2), ("buy", 9, 9, 3)), [5, 2, 3])

    def test_in_order_of_entry_over_both_sides(self):
        self.assertEqual(shares(0, 9, ("buy", 9, 9, 2), ("sell", 1, 1, 1), ("buy", 9, 9, 3), ("sell", 1, 1, 4)),
                         [2, 1, 3, 4])

    def test_shared_out_without_remainders(self):
        self.assertEqual(shares(0, 9, ("sell", 5, 5, 10), ("sell", 5, 5, 20), ("buy", 9, 9, 15)), [5, 10, 15])

    def test_greatest_remainders_get_the_missing_units(self):
        # r = 10, w = 12: 10 * 3 / 12 leaves 6, 10 * 4 / 12 leaves 4, 10 * 5 / 12 leaves 2.
        self.assertEqual(shares(0, 9, ("sell", 5, 5, 5), ("sell", 5, 5, 4), ("sell", 5, 5, 3), ("buy", 9, 9, 10)),
                         [4, 3, 3, 10])
        # r = 5, w = 12: remainders 1, 8, 3.
        self.assertEqual(shares(0, 9, ("sell", 5, 5, 5), ("sell", 5, 5, 4), ("sell", 5, 5, 3), ("buy", 9, 9, 5)),
                         [2, 2, 1, 5])

    def test_later_order_with_the_greater_remainder(self):
        # r = 1: whoever has the most at the money has the greatest remainder.
        self.assertEqual(shares(0, 9, ("buy", 5, 5, 2), ("buy", 5, 5, 3), ("sell", 0, 0, 1)), [0, 1, 1])
        self.assertEqual(shares(0, 9, ("buy", 5, 5, 3), ("buy", 5, 5, 2), ("sell", 0, 0, 1)), [1, 0, 1])

    def test_equal_remainders_go_to_the_earlier(self):
        self.assertEqual(shares(0, 9, ("sell", 5, 5, 7), ("buy", 9, 9, 8), ("sell", 5, 5, 7), ("sell", 5, 5, 7)),
                         [3, 8, 3, 2])
        self.assertEqual(shares(0, 9, ("buy", 5, 5, 7), ("sell", 0, 0, 10), ("buy", 5, 5, 7), ("buy", 5, 5, 7)),
                         [4, 10, 3, 3])

    def test_equal_remainders_follow_a_move(self):
        parts = ask(("open", 0, 9), ("sell", 5, 5, 7), ("sell", 5, 5, 7), ("buy", 9, 9, 1), ("shares",),
                    ("move", 1, 5, 5), ("shares",), ("cut", 2, 6), ("shares",), ("cut", 1, 6), ("shares",))
        self.assertEqual([parts[4], parts[6], parts[8], parts[10]],
                         [[0, 1, 0, 1], [0, 1, 1, 0], [0, 0, 1, 1], [0, 1, 1, 0]])

    def test_equal_remainders_follow_a_cancel(self):
        parts = ask(("open", 0, 9), ("sell", 5, 5, 7), ("sell", 5, 5, 7), ("buy", 9, 9, 1), ("cancel", 1),
                    ("sell", 5, 5, 7), ("shares",))
        self.assertEqual(parts[6], [0, 1, 1, 0])

    def test_sure_amounts_come_first(self):
        # At 5 the order with limit 2 is sure of all, the two with limit 5 share the rest.
        self.assertEqual(shares(0, 9, ("sell", 5, 5, 6), ("sell", 2, 2, 4), ("sell", 5, 5, 6), ("buy", 9, 9, 7)),
                         [2, 4, 1, 7])
        self.assertEqual(shares(0, 9, ("buy", 5, 5, 6), ("buy", 8, 8, 4), ("buy", 5, 5, 6), ("sell", 0, 0, 7)),
                         [2, 4, 1, 7])

    def test_slanting_orders_have_a_part_at_the_money(self):
        # At 4 the seller is ready for 40, sure of 30; the buyer takes all of 33.
        self.assertEqual(shares(0, 9, ("sell", 0, 9, 90), ("buy", 9, 9, 33)), [33, 33])
        # Both sellers are sure of 30 and 3 at 4 and have 10 and 1 at the money; r is 5.
        self.assertEqual(shares(0, 9, ("sell", 0, 9, 90), ("sell", 0, 9, 9), ("buy", 9, 9, 38)), [35, 3, 38])
        self.assertEqual(shares(0, 9, ("buy", 0, 9, 90), ("buy", 0, 9, 9), ("sell", 0, 0, 38)), [35, 3, 38])

    def test_sure_is_what_the_next_worse_price_gives(self):
        # One price on, the first is still ready for 30 and the second for 0: both have 10 at the money, r is 5.
        self.assertEqual(shares(0, 9, ("sell", 0, 9, 90), ("sell", 3, 9, 60), ("buy", 9, 9, 35)), [33, 2, 35])
        self.assertEqual(shares(0, 9, ("buy", 0, 9, 90), ("buy", 0, 6, 60), ("sell", 0, 0, 35)), [33, 2, 35])

    def test_orders_beyond_the_price_get_nothing(self):
        self.assertEqual(shares(0, 9, ("sell", 8, 8, 5), ("sell", 2, 2, 5), ("buy", 3, 3, 9), ("buy", 0, 1, 5)),
                         [0, 5, 5, 0])

    def test_prices_below_zero(self):
        self.assertEqual(shares(-9, -1, ("sell", -5, -5, 7), ("sell", -5, -5, 7), ("buy", -1, -1, 5)), [3, 2, 5])

    def test_bounds_of_one_price(self):
        self.assertEqual(shares(3, 3, ("sell", 3, 3, 5), ("buy", 3, 3, 4), ("buy", 3, 3, 4)), [5, 3, 2])

    def test_products_above_the_53rd_bit_are_exact(self):
        # r * m is about 10^18; the remainders of both are alike, so the earlier gets the unit.
        big = 1000000000
        self.assertEqual(shares(0, 9, ("sell", 5, 5, big), ("sell", 5, 5, big), ("buy", 9, 9, big - 1)),
                         [big // 2, big // 2 - 1, big - 1])
        self.assertEqual(shares(0, 9, ("sell", 5, 5, big - 1), ("sell", 5, 5, big), ("buy", 9, 9, big - 1)),
                         [499999999, 500000000, big - 1])

    def test_without_a_session(self):
        self.assertEqual(ask(("shares",)), [[-2]])


class ShareTest(unittest.TestCase):
    ORDERS = (("open", 0, 9), ("sell", 5, 5, 7), ("buy", 9, 9, 9), ("sell", 5, 5, 7))

    def test_each_order(self):
        parts = ask(*self.ORDERS, ("shares",), ("share", 1), ("share", 2), ("share", 3))
        self.assertEqual(parts[4:], [[0, 5, 9, 4], [0, 5], [0, 9], [0, 4]])

    def test_is_told_by_number_not_by_place(self):
        parts = ask(*self.ORDERS, ("move", 1, 5, 5), ("share", 1), ("share", 3), ("cancel", 3), ("share", 3),
                    ("share", 1), ("share", 2))
        self.assertEqual(parts[4:], [[0], [0, 4], [0, 5], [0, 7], [-3], [0, 7], [0, 7]])

    def test_numbers_not_in_the_book(self):
        for n in NO_SUCH:
            self.assertEqual(last(*self.ORDERS, ("share", n)), [-3])

    def test_numbers_out_of_range(self):
        for n in NO_NUMBER:
            self.assertEqual(last(*self.ORDERS, ("share", n)), [-1])
            self.assertEqual(ask(("share", n)), [[-1]])

    def test_without_a_session(self):
        self.assertEqual(ask(("share", 1)), [[-2]])


if __name__ == "__main__":
    unittest.main()
