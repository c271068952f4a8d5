"""The call check."""

import unittest

from quarterprice.zone import answers
from tests.helper import ask, behind, flat, last

# At 5 the seller at 2 is sure of 4, the one at 5 gets 0 to 3, the buyer is sure of 6.
THREE = (("open", 0, 9), ("sell", 2, 2, 4), ("sell", 5, 5, 3), ("buy", 8, 8, 6))
# The seller is sure of 30 and ready for 40 at 4, the buyer takes up to 33.
SLANTING = (("open", 0, 9), ("sell", 0, 9, 90), ("buy", 9, 9, 33))
HUGE = 10 ** 18


class CheckTest(unittest.TestCase):
    def test_shares_at_the_price(self):
        self.assertEqual(behind(THREE, ("clear",), ("shares",), ("check", 5, [4, 2, 6])),
                         [[0, 5, 6], [0, 4, 2, 6], [0, 1]])
        self.assertEqual(behind(SLANTING, ("clear",), ("check", 4, [33, 33])), [[0, 4, 33], [0, 1]])

    def test_shares_at_other_prices(self):
        for p in (-1, 0, 2, 3, 4, 6, 7, 8, 9, 10):
            self.assertEqual(last(*THREE, ("check", p, [4, 2, 6])), [0, 0], p)

    def test_every_price_that_supports(self):
        start = (("open", 0, 100), ("sell", 20, 20, 5), ("buy", 60, 60, 5))
        for p, answer in ((19, 0), (20, 1), (21, 1), (40, 1), (60, 1), (61, 0)):
            self.assertEqual(last(*start, ("check", p, [5, 5])), [0, answer], p)

    def test_another_outcome_than_the_shares(self):
        # Both sellers are at the money: whoever sells the 4, it is an outcome.
        start = (("open", 0, 9), ("sell", 5, 5, 4), ("sell", 5, 5, 4), ("buy", 8, 8, 4))
        for amounts, answer in (([2, 2, 4], 1), ([4, 0, 4], 1), ([0, 4, 4], 1), ([3, 1, 4], 1), ([3, 2, 4], 0)):
            self.assertEqual(last(*start, ("check", 5, amounts)), [0, answer], amounts)

    def test_prices_outside_the_bounds(self):
        # Nobody deals, and nobody would at these prices either: but they aren't from L to H.
        start = (("open", 10, 20), ("sell", 20, 20, 5), ("buy", 10, 10, 5))
        for p, answer in ((9, 0), (10, 1), (15, 1), (20, 1), (21, 0), (-1000000, 0), (1000000, 0)):
            self.assertEqual(last(*start, ("check", p, [0, 0])), [0, answer], p)
        for p, answer in ((-1, 0), (0, 1), (9, 1), (10, 0)):
            self.assertEqual(last(("open", 0, 9), ("check", p, [])), [0, answer], p)

    def test_not_good(self):
        # As much as each is ready for, but more is sold than bought, or bought than sold.
        self.assertEqual(last(*THREE, ("check", 5, [4, 3, 6])), [0, 0])
        self.assertEqual(last(*THREE, ("check", 5, [4, 1, 6])), [0, 0])
        self.assertEqual(last(*SLANTING, ("check", 4, [34, 33])), [0, 0])
        self.assertEqual(last(("open", 0, 9), ("sell", 3, 3, 5), ("check", 3, [5])), [0, 0])
        self.assertEqual(last(("open", 0, 9), ("buy", 3, 3, 5), ("check", 3, [5])), [0, 0])

    def test_above_the_amount(self):
        self.assertEqual(last(*THREE, ("check", 5, [2, 4, 6])), [0, 0])
        self.assertEqual(last(*THREE, ("check", 5, [4, 3, 7])), [0, 0])
        self.assertEqual(last(*THREE, ("check", 5, [1000000000, 0, 1000000000])), [0, 0])

    def test_below_a_sure_amount(self):
        self.assertEqual(last(*THREE, ("check", 5, [3, 3, 6])), [0, 0])
        self.assertEqual(last(*THREE, ("check", 5, [4, 1, 5])), [0, 0])
        self.assertEqual(last(*THREE, ("check", 5, [0, 0, 0])), [0, 0])
        start = (("open", 0, 9), ("sell", 0, 9, 90), ("buy", 4, 4, 35))
        for x, answer in ((29, 0), (30, 1), (31, 1), (35, 1)):
            self.assertEqual(last(*start, ("check", 4, [x, x])), [0, answer], x)

    def test_above_what_is_ready(self):
        start = (("open", 0, 9), ("sell", 0, 9, 90), ("buy", 4, 4, 60))
        for x, answer in ((39, 1), (40, 1), (41, 0), (60, 0)):
            self.assertEqual(last(*start, ("check", 4, [x, x])), [0, answer], x)
        start = (("open", 0, 9), ("buy", 0, 9, 90), ("sell", 5, 5, 60))
        for x, answer in ((29, 0), (30, 1), (40, 1), (41, 0)):
            self.assertEqual(last(*start, ("check", 5, [x, x])), [0, answer], x)

    def test_empty_book(self):
        self.assertEqual(behind((("open", 0, 9),), ("check", 3, []), ("check", 3, [0])), [[0, 1], [-3]])

    def test_another_count_than_orders(self):
        for amounts in ([], [0], [4, 2], [4, 2, 6, 0], [0] * 64):
            self.assertEqual(last(*THREE, ("check", 5, amounts)), [-3], amounts)
            # Also where the price is not from L to H.
            self.assertEqual(last(*THREE, ("check", 10, amounts)), [-3], amounts)

    def test_full_book(self):
        start = [("open", 0, 9)] + [(("sell", "buy")[k % 2], 5, 5, 3) for k in range(64)]
        self.assertEqual(behind(start, ("check", 5, [3] * 64), ("check", 5, [2] * 64), ("check", 5, [4] * 64),
                                ("check", 5, [3] * 63), ("check", 5, [3] * 65), ("check", 5, [3] * 100)),
                         [[0, 1], [0, 1], [0, 0], [-3], [-1], [-1]])

    def test_largest_amounts(self):
        big = 1000000000
        start = (("open", 0, 9), ("sell", 2, 2, big), ("buy", 7, 7, big))
        self.assertEqual(behind(start, ("check", 5, [big, big]), ("check", 5, [big - 1, big - 1]),
                                ("check", 5, [big + 1, big + 1])), [[0, 1], [0, 0], [-1]])

    def test_out_of_range(self):
        for p, amounts in ((1000001, [4, 2, 6]), (-1000001, [4, 2, 6]), (HUGE, []), (-HUGE, [0]), (5, [-1, 2, 6]),
                           (5, [4, 2, 1000000001]), (5, [0] * 65), (5, [0] * 100), (5, [-1]), (5, [HUGE, 0, 0, 0]),
                           (1000001, [-1])):
            self.assertEqual(last(*THREE, ("check", p, amounts)), [-1], (p, amounts))
            self.assertEqual(ask(("check", p, amounts)), [[-1]], (p, amounts))

    def test_without_a_session(self):
        for p, amounts in ((0, []), (1000000, [0]), (-1000000, [1000000000]), (5, [4, 2, 6]), (5, [0] * 64)):
            self.assertEqual(ask(("check", p, amounts)), [[-2]], (p, amounts))

    def test_calls_behind_an_allocation_are_found(self):
        self.assertEqual(behind(THREE, ("check", 5, []), ("check", 5, [17, 17, 17]), ("check", 5, [20] * 100),
                                ("clear",)),
                         [[-3], [0, 0], [-1], [0, 5, 6]])

    def test_answers_whole_numbers(self):
        for amounts in ([4, 2, 6], [4, 2, 5]):
            for number in answers(flat(THREE + (("check", 5, amounts),))):
                self.assertIs(type(number), int)

    def test_nothing_is_changed(self):
        told = (("book",), ("shares",), ("welfare",))
        parts = behind(THREE, *told, ("check", 5, [4, 2, 6]), ("check", 5, [0, 0, 0]), ("worth", [0, 0, 0]), *told)
        self.assertEqual(parts[:3], parts[6:])


if __name__ == "__main__":
    unittest.main()
