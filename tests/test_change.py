"""The calls cancel, cut and move."""

import unittest

from tests.helper import ask, last

# Three buy orders of 10 each, so that what each gets of 20 tells the order of entry.
THREE = (("open", 0, 100), ("buy", 50, 50, 10), ("buy", 50, 50, 10), ("buy", 50, 50, 10), ("sell", 0, 0, 20))
NO_SUCH = (0, -1, 5, 64, 10 ** 18, -10 ** 18)
NO_NUMBER = (10 ** 18 + 1, -10 ** 18 - 1)


class CancelTest(unittest.TestCase):
    def test_takes_the_order_out_and_answers_its_amount(self):
        parts = ask(*THREE, ("cancel", 2), ("demand", 0), ("supply", 0), ("shares",))
        self.assertEqual(parts[5:], [[0, 10], [0, 20], [0, 20], [0, 10, 10, 20]])

    def test_answers_the_amount_that_was_cut(self):
        self.assertEqual(last(*THREE, ("cut", 4, 7), ("cancel", 4)), [0, 7])

    def test_numbers_not_in_the_book(self):
        for n in NO_SUCH:
            parts = ask(*THREE, ("cancel", n), ("shares",))
            self.assertEqual(parts[5:], [[-3], [0, 7, 7, 6, 20]], n)

    def test_numbers_out_of_range(self):
        for n in NO_NUMBER:
            self.assertEqual(last(*THREE, ("cancel", n)), [-1])

    def test_cancelled_orders_are_not_there(self):
        parts = ask(*THREE, ("cancel", 1), ("cancel", 1), ("cut", 1, 5), ("move", 1, 0, 0), ("share", 1), ("share", 2))
        self.assertEqual(parts[5:], [[0, 10], [-3], [-3], [-3], [-3], [0, 10]])

    def test_numbers_are_never_given_twice(self):
        parts = ask(*THREE, ("cancel", 4), ("sell", 0, 0, 1), ("cancel", 5), ("buy", 0, 0, 1), ("cancel", 1),
                    ("cancel", 2), ("cancel", 3), ("cancel", 6), ("shares",), ("sell", 0, 0, 1))
        self.assertEqual([parts[6], parts[8], parts[13], parts[14]], [[0, 5], [0, 6], [0], [0, 7]])

    def test_others_keep_their_order(self):
        parts = ask(("open", 0, 9), ("sell", 0, 0, 1), ("sell", 0, 0, 2), ("sell", 0, 0, 3), ("buy", 9, 9, 6),
                    ("cancel", 2), ("shares",))
        self.assertEqual(parts[6], [0, 1, 3, 4])

    def test_without_a_session(self):
        self.assertEqual(ask(("cancel", 1)), [[-2]])


class CutTest(unittest.TestCase):
    def test_answers_by_how_much_it_became_less(self):
        parts = ask(*THREE, ("cut", 4, 15), ("supply", 0), ("cut", 4, 14), ("supply", 0), ("cut", 4, 1), ("supply", 0))
        self.assertEqual(parts[5:], [[0, 5], [0, 15], [0, 1], [0, 14], [0, 13], [0, 1]])

    def test_stays_at_its_place(self):
        parts = ask(*THREE, ("cut", 1, 9), ("shares",))
        self.assertEqual(parts[6], [0, 6, 7, 7, 20])
        parts = ask(("open", 0, 9), ("sell", 0, 0, 4), ("sell", 0, 0, 3), ("buy", 9, 9, 1), ("cut", 1, 3), ("shares",))
        self.assertEqual(parts[5], [0, 1, 0, 1])

    def test_keeps_side_limits_and_number(self):
        parts = ask(("open", 0, 9), ("sell", 0, 8, 16), ("buy", 1, 9, 16), ("cut", 1, 8), ("cut", 2, 8),
                    ("supply", 3), ("demand", 3), ("share", 1))
        self.assertEqual(parts[5:], [[0, 3], [0, 6], [0, 4]])

    def test_not_below_its_amount(self):
        for q in (20, 21, 1000000000):
            parts = ask(*THREE, ("cut", 4, q), ("supply", 0))
            self.assertEqual(parts[5:], [[-4], [0, 20]])
        self.assertEqual(last(("open", 0, 0), ("buy", 0, 0, 1), ("cut", 1, 1)), [-4])

    def test_amounts_out_of_range(self):
        for q in (0, -1, 1000000001, 10 ** 18, -10 ** 18):
            parts = ask(*THREE, ("cut", 4, q), ("supply", 0))
            self.assertEqual(parts[5:], [[-1], [0, 20]])

    def test_largest_cut(self):
        parts = ask(("open", 0, 0), ("sell", 0, 0, 1000000000), ("cut", 1, 1000000000), ("cut", 1, 999999999),
                    ("cut", 1, 1))
        self.assertEqual(parts[2:], [[-4], [0, 1], [0, 999999998]])

    def test_numbers_not_in_the_book(self):
        for n in NO_SUCH:
            self.assertEqual(last(*THREE, ("cut", n, 5)), [-3])
            self.assertEqual(last(*THREE, ("cut", n, 1000000000)), [-3])
            self.assertEqual(last(*THREE, ("cut", n, 0)), [-1])

    def test_numbers_out_of_range(self):
        for n in NO_NUMBER:
            self.assertEqual(last(*THREE, ("cut", n, 5)), [-1])

    def test_without_a_session(self):
        self.assertEqual(ask(("cut", 1, 1), ("cut", 1, 0)), [[-2], [-1]])


class MoveTest(unittest.TestCase):
    def test_has_the_new_limits(self):
        parts = ask(("open", 0, 100), ("sell", 0, 0, 10), ("buy", 9, 9, 7), ("move", 1, 20, 30), ("move", 2, 50, 57),
                    ("supply", 19), ("supply", 25), ("supply", 30), ("demand", 50), ("demand", 52), ("demand", 57))
        self.assertEqual(parts[3:], [[0], [0], [0, 0], [0, 5], [0, 10], [0, 7], [0, 5], [0, 0]])

    def test_keeps_number_side_and_amount(self):
        parts = ask(("open", 0, 100), ("sell", 0, 0, 10), ("sell", 0, 0, 20), ("move", 1, 3, 3), ("supply", 0),
                    ("supply", 3), ("demand", 0), ("sell", 5, 5, 1), ("cancel", 1), ("cancel", 2), ("cancel", 3))
        self.assertEqual(parts[3:], [[0], [0, 20], [0, 30], [0, 0], [0, 3], [0, 10], [0, 20], [0, 1]])

    def test_stands_behind_all_others(self):
        parts = ask(*THREE, ("move", 1, 50, 50), ("shares",), ("share", 1), ("share", 2), ("share", 3))
        self.assertEqual(parts[5:], [[0], [0, 7, 7, 20, 6], [0, 6], [0, 7], [0, 7]])

    def test_stands_behind_those_that_come_later_and_ahead_of_new_ones(self):
        parts = ask(("open", 0, 9), ("sell", 0, 0, 1), ("sell", 0, 0, 2), ("move", 1, 0, 0), ("sell", 0, 0, 4),
                    ("buy", 9, 9, 7), ("move", 2, 0, 0), ("shares",))
        self.assertEqual(parts[7], [0, 1, 4, 7, 2])

    def test_last_order_stays_last(self):
        parts = ask(("open", 0, 9), ("sell", 0, 0, 1), ("buy", 9, 9, 1), ("move", 2, 8, 9), ("shares",))
        self.assertEqual(parts[3:], [[0], [0, 1, 1]])

    def test_full_book_can_be_moved_in(self):
        calls = [("open", 0, 9)] + [("sell", 0, 0, k + 1) for k in range(64)]
        parts = ask(*calls, ("move", 1, 9, 9), ("supply", 9), ("supply", 8))
        self.assertEqual(parts[65:], [[0], [0, 2080], [0, 2079]])

    def test_limits_on_and_outside_the_bounds(self):
        for p0, p1, answer in ((0, 0, [0]), (100, 100, [0]), (0, 100, [0]), (-1, 5, [-4]), (5, 101, [-4]),
                               (-1, 101, [-4]), (101, 102, [-4])):
            self.assertEqual(last(*THREE, ("move", 1, p0, p1)), answer, (p0, p1))

    def test_limits_out_of_range(self):
        start = (("open", -1000000, 1000000), ("buy", 0, 0, 1))
        for p0, p1, answer in ((0, 10000, [0]), (0, 10001, [-1]), (-1000000, -990000, [0]), (-1000001, -1000000, [-1]),
                               (1000000, 1000000, [0]), (1000000, 1000001, [-1]), (5, 4, [-1]), (5, 5, [0])):
            self.assertEqual(last(*start, ("move", 1, p0, p1)), answer, (p0, p1))

    def test_refused_moves_change_nothing(self):
        parts = ask(*THREE, ("move", 1, 0, 101), ("move", 1, 6, 5), ("move", 9, 1, 2), ("shares",), ("demand", 50),
                    ("demand", 51))
        self.assertEqual(parts[5:], [[-4], [-1], [-3], [0, 7, 7, 6, 20], [0, 30], [0, 0]])

    def test_numbers_not_in_the_book(self):
        for n in NO_SUCH:
            self.assertEqual(last(*THREE, ("move", n, 5, 6)), [-3])
            self.assertEqual(last(*THREE, ("move", n, 5, 101)), [-3])
            self.assertEqual(last(*THREE, ("move", n, 6, 5)), [-1])

    def test_numbers_out_of_range(self):
        for n in NO_NUMBER:
            self.assertEqual(last(*THREE, ("move", n, 5, 6)), [-1])

    def test_without_a_session(self):
        self.assertEqual(ask(("move", 1, 0, 0), ("move", 1, 1, 0)), [[-2], [-1]])


if __name__ == "__main__":
    unittest.main()
