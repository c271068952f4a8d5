"""The calls surplus, welfare, gain, worth and dual."""

import unittest
from itertools import product
from random import Random

from tests.helper import ask, behind, last
from tests.slow import SELLS, make, ready, unit_limit, worth_by_prices, worth_by_units

NO_NUMBER = (10 ** 18 + 1, -10 ** 18 - 1)
# At 5 the buyer takes 6: 4 sure from the seller at 2, 2 of the three from the seller at 5.
THREE = (("open", 0, 9), ("sell", 2, 2, 4), ("sell", 5, 5, 3), ("buy", 8, 8, 6))
# Units of the seller at -4, -2, 0 and of the buyer at 3, 1.
SLANTING = (("open", -9, 9), ("sell", -6, 0, 3), ("buy", 1, 5, 2))
SIDES = ("sell", "buy")


def entered(orders):
    return [(SIDES[o["side"]], o["p0"], o["p1"], o["q"]) for o in orders]


def drawn_orders(chance, low, high, most, count):
    orders = []
    for n in range(1, count + 1):
        limits = sorted((chance.randint(low, high), chance.randint(low, high)))
        if chance.random() < 0.3:
            limits[1] = limits[0]
        orders.append(make(n, chance.randint(0, 1), *limits, chance.randint(1, most)))
    return orders


def gain_by_units(order, x, p):
    """Each unit's own gain added up: what it gets above its limit, or pays below it."""
    gains = [p - unit_limit(order, k) for k in range(1, x + 1)]
    return sum(gains) if order["side"] == SELLS else -sum(gains)


class UnitsTest(unittest.TestCase):
    """worth tells the limits: behind an order at 0 on the other side, x units are worth what the words say."""

    def told_worth(self, order, x):
        """What worth answers for x units of the order; the other side's units are at 0."""
        other = make(2, 1 - order["side"], 0, 0, order["q"])
        return last(("open", -1000000, 1000000), *entered([order, other]), ("worth", [x, x]))

    def test_every_small_order(self):
        for side, p0, width, q in product((0, 1), (-7, -2, 0, 3), range(0, 8), range(1, 9)):
            order = make(1, side, p0, p0 + width, q)
            for x in range(0, q + 1):
                expected = worth_by_units(order, x)
                self.assertEqual(worth_by_prices(order, x), expected)
                self.assertEqual(self.told_worth(order, x), [0, expected], (order, x))

    def test_by_hand(self):
        # Ready for 1 from 4 on, for 2 from 7 on, for 3 from 10 on.
        seller = make(1, 0, 0, 10, 3)
        self.assertEqual([self.told_worth(seller, x) for x in range(4)], [[0, 0], [0, -4], [0, -11], [0, -21]])
        # Ready for 1 up to 6, for 2 up to 3, for 3 up to 0.
        buyer = make(1, 1, 0, 10, 3)
        self.assertEqual([self.told_worth(buyer, x) for x in range(4)], [[0, 0], [0, 6], [0, 9], [0, 9]])
        # Both limits alike: every unit at -5.
        self.assertEqual(self.told_worth(make(1, 0, -5, -5, 3), 3), [0, 15])
        self.assertEqual(self.told_worth(make(1, 1, -5, -5, 3), 3), [0, -15])

    def test_wide_orders(self):
        chance = Random(3)
        for side, width, q in product((0, 1), (1, 9999, 10000), (1, 9999, 10001, 999999999, 1000000000)):
            order = make(1, side, -1000000, width - 1000000, q)
            for x in (1, q // 2, q - 1, q, chance.randint(0, q)):
                self.assertEqual(self.told_worth(order, x), [0, worth_by_prices(order, x)], (order, x))

    def test_against_units_on_small_books(self):
        for seed in range(200):
            chance = Random(seed)
            low, high = chance.choice(((0, 12), (-12, 0), (-6, 6), (-30, -20), (4, 5)))
            orders = drawn_orders(chance, low, high, chance.choice((1, 4, 9)), chance.randint(1, 6))
            self.check_book(seed, low, high, orders)

    def check_book(self, seed, low, high, orders):
        start = (("open", low, high), *entered(orders))
        numbers = [order["n"] for order in orders]
        parts = behind(start, ("clear",), ("shares",), ("welfare",), *[("surplus", n) for n in numbers],
                       *[("dual", p) for p in range(low - 2, high + 3)])
        price, shares = parts[0][1], parts[1][1:]
        welfare = sum(worth_by_units(order, x) for order, x in zip(orders, shares))
        self.assertEqual(parts[2], [0, welfare], seed)
        self.assertEqual(last(*start, ("worth", shares)), [0, welfare], seed)
        told = parts[3:3 + len(orders)]
        self.assertEqual(told, [[0, gain_by_units(o, x, price)] for o, x in zip(orders, shares)], seed)
        duals = [sum(gain_by_units(o, ready(o, p), p) for o in orders) for p in range(low - 2, high + 3)]
        self.assertEqual(parts[3 + len(orders):], [[0, dual] for dual in duals], seed)
        # At the price each gets all that it gains by: the surpluses, the dual there and welfare are one.
        self.assertEqual(sum(part[1] for part in told), welfare, seed)
        self.assertEqual(duals[price - low + 2], welfare, seed)
        for n in numbers:
            rest = entered([order for order in orders if order["n"] != n])
            without = last(("open", low, high), *rest, ("welfare",))[1]
            self.assertEqual(last(*start, ("gain", n)), [0, welfare - without], (seed, n))


class SurplusTest(unittest.TestCase):
    def test_each_order(self):
        # The price is 5: the seller at 2 gains 3 by each of 4, the one at 5 nothing, the buyer 3 by each of 6.
        self.assertEqual(behind(THREE, ("clear",), ("surplus", 1), ("surplus", 2), ("surplus", 3)),
                         [[0, 5, 6], [0, 12], [0, 0], [0, 18]])

    def test_slanting_orders(self):
        # Sellers' units at -4, -2, 0; buyers' at 3 and 1: two are dealt, at -2 to 0, so at -1.
        self.assertEqual(behind(SLANTING, ("range",), ("clear",), ("shares",), ("surplus", 1), ("surplus", 2)),
                         [[0, -2, 0], [0, -1, 2], [0, 2, 2], [0, 4], [0, 6]])

    def test_share_of_nothing(self):
        self.assertEqual(last(("open", 0, 9), ("sell", 3, 3, 4), ("surplus", 1)), [0, 0])
        self.assertEqual(last(("open", -9, 9), ("sell", 3, 3, 4), ("buy", -3, -3, 4), ("surplus", 2)), [0, 0])

    def test_is_told_by_number(self):
        start = THREE + (("move", 1, 2, 2), ("cancel", 2))
        # Without the second the four go at 8.
        self.assertEqual(behind(start, ("clear",), ("surplus", 1), ("surplus", 2), ("surplus", 3)),
                         [[0, 8, 4], [0, 24], [-3], [0, 0]])

    def test_numbers_not_in_the_book(self):
        for n in (0, -1, 4, 10 ** 18, -10 ** 18):
            self.assertEqual(last(*THREE, ("surplus", n)), [-3], n)
        self.assertEqual(last(*THREE, ("cancel", 1), ("surplus", 1)), [-3])

    def test_numbers_out_of_range(self):
        for n in NO_NUMBER:
            self.assertEqual(last(*THREE, ("surplus", n)), [-1])
            self.assertEqual(ask(("surplus", n)), [[-1]])

    def test_without_a_session(self):
        self.assertEqual(ask(("surplus", 1)), [[-2]])


class WelfareTest(unittest.TestCase):
    def test_worth_of_the_shares(self):
        # 6 * 8 less 4 * 2 less 2 * 5.
        self.assertEqual(last(*THREE, ("welfare",)), [0, 30])
        # 3 + 1 and 4 + 2.
        self.assertEqual(last(*SLANTING, ("welfare",)), [0, 10])

    def test_nothing_is_dealt(self):
        self.assertEqual(last(("open", 0, 9), ("welfare",)), [0, 0])
        self.assertEqual(last(("open", 0, 9), ("sell", 3, 3, 4), ("welfare",)), [0, 0])
        self.assertEqual(last(("open", 0, 9), ("buy", 3, 3, 4), ("welfare",)), [0, 0])
        self.assertEqual(last(("open", 0, 9), ("buy", 3, 3, 4), ("sell", 4, 4, 4), ("welfare",)), [0, 0])

    def test_dealt_at_one_price(self):
        self.assertEqual(last(("open", -9, 9), ("buy", -3, -3, 4), ("sell", -3, -3, 9), ("welfare",)), [0, 0])

    def test_follows_the_book(self):
        self.assertEqual(behind(THREE, ("cut", 3, 4), ("welfare",), ("move", 3, 9, 9), ("welfare",), ("cancel", 1),
                                ("welfare",)),
                         [[0, 2], [0, 24], [0], [0, 28], [0, 4], [0, 12]])

    def test_without_a_session(self):
        self.assertEqual(ask(("welfare",)), [[-2]])


class GainTest(unittest.TestCase):
    def test_book_of_one_order(self):
        for side in SIDES:
            self.assertEqual(last(("open", -9, 9), (side, -4, 4, 7), ("gain", 1)), [0, 0])

    def test_two_orders_need_one_another(self):
        start = (("open", 0, 100), ("sell", 20, 20, 5), ("buy", 60, 60, 5))
        self.assertEqual(behind(start, ("gain", 1), ("gain", 2)), [[0, 200], [0, 200]])

    def test_an_order_whose_going_changes_the_price(self):
        # Without the first the buyer gets 3 at 8 (welfare 9), without the second 4 at 8 (24), of 30.
        self.assertEqual(behind(THREE, ("gain", 1), ("gain", 2), ("gain", 3)), [[0, 21], [0, 6], [0, 30]])
        self.assertEqual(behind(THREE, ("clear",), ("cancel", 1), ("clear",), ("welfare",)),
                         [[0, 5, 6], [0, 4], [0, 8, 3], [0, 9]])
        self.assertEqual(behind(THREE, ("cancel", 2), ("clear",), ("welfare",)), [[0, 3], [0, 8, 4], [0, 24]])

    def test_is_more_than_the_surplus_where_the_price_moves(self):
        self.assertEqual(behind(THREE, ("surplus", 1), ("gain", 1)), [[0, 12], [0, 21]])

    def test_an_order_that_adds_nothing(self):
        self.assertEqual(last(*THREE, ("sell", 9, 9, 5), ("gain", 4)), [0, 0])
        self.assertEqual(last(*THREE, ("sell", 5, 5, 5), ("gain", 4)), [0, 0])

    def test_nothing_is_changed(self):
        told = (("book",), ("shares",), ("welfare",), ("ladder", 0))
        parts = behind(THREE, *told, ("gain", 1), *told, ("sell", 0, 0, 1))
        self.assertEqual(parts[:4], parts[5:9])
        self.assertEqual(parts[9], [0, 4])

    def test_numbers_not_in_the_book(self):
        for n in (0, -1, 4, 10 ** 18, -10 ** 18):
            self.assertEqual(last(*THREE, ("gain", n)), [-3], n)
        self.assertEqual(last(*THREE, ("cancel", 2), ("gain", 2)), [-3])

    def test_numbers_out_of_range(self):
        for n in NO_NUMBER:
            self.assertEqual(last(*THREE, ("gain", n)), [-1])
            self.assertEqual(ask(("gain", n)), [[-1]])

    def test_without_a_session(self):
        self.assertEqual(ask(("gain", 1)), [[-2]])


class WorthTest(unittest.TestCase):
    def test_good_allocations(self):
        for amounts, worth in (([0, 0, 0], 0), ([4, 2, 6], 30), ([3, 3, 6], 27), ([0, 3, 3], 9), ([1, 0, 1], 6)):
            self.assertEqual(last(*THREE, ("worth", amounts)), [0, worth])

    def test_below_zero(self):
        # The seller's unit at 8 goes to the buyer at 2.
        self.assertEqual(last(("open", 0, 9), ("buy", 2, 2, 1), ("sell", 8, 8, 1), ("worth", [1, 1])), [0, -6])

    def test_empty_book(self):
        self.assertEqual(behind((("open", 0, 9),), ("worth", []), ("worth", [0]), ("worth", [1])), [[0, 0], [-3], [-3]])

    def test_another_count_than_orders(self):
        for amounts in ([], [0], [4, 2], [4, 2, 6, 0], [0] * 64):
            self.assertEqual(last(*THREE, ("worth", amounts)), [-3], amounts)

    def test_not_good(self):
        for amounts in ([4, 2, 5], [4, 1, 6], [5, 1, 6], [2, 4, 6], [4, 3, 7], [0, 0, 1], [1, 0, 0],
                        [1000000000, 0, 6]):
            self.assertEqual(last(*THREE, ("worth", amounts)), [-4], amounts)

    def test_more_than_cut_is_not_good(self):
        self.assertEqual(behind(THREE, ("worth", [4, 0, 4]), ("cut", 1, 3), ("worth", [4, 0, 4]), ("worth", [3, 0, 3])),
                         [[0, 24], [0, 1], [-4], [0, 18]])

    def test_count_is_looked_at_before_good(self):
        self.assertEqual(last(*THREE, ("worth", [1, 0])), [-3])
        self.assertEqual(last(*THREE, ("worth", [1000000000])), [-3])

    def test_full_book(self):
        start = [("open", 0, 9)] + [(SIDES[k % 2], 2 + k % 2, 2 + k % 2, 2) for k in range(64)]
        self.assertEqual(last(*start, ("worth", [1] * 64)), [0, 32])
        self.assertEqual(last(*start, ("worth", [1] * 63)), [-3])
        self.assertEqual(last(*start, ("worth", [1] * 65)), [-1])
        self.assertEqual(last(*start, ("worth", [1] * 100)), [-1])

    def test_out_of_range(self):
        for amounts in ([-1, 0, 0], [0, 0, -1], [1000000001, 0, 0], [0] * 65, [0] * 100, [10 ** 18], [-10 ** 18, 0, 0],
                        [-1], [1000000001]):
            self.assertEqual(last(*THREE, ("worth", amounts)), [-1], amounts)
            self.assertEqual(ask(("worth", amounts)), [[-1]], amounts)

    def test_without_a_session(self):
        for amounts in ([], [0], [1, 2, 3], [0] * 64, [1000000000]):
            self.assertEqual(ask(("worth", amounts)), [[-2]])

    def test_call_behind_an_allocation_is_found(self):
        self.assertEqual(behind(THREE, ("worth", []), ("worth", [13, 13, 13]), ("worth", [9] * 100), ("welfare",)),
                         [[-3], [-4], [-1], [0, 30]])


class DualTest(unittest.TestCase):
    def test_at_each_price(self):
        # Sellers gain p - 2 by each of 4 from 2 on and p - 5 by each of 3 from 5 on, the buyer 8 - p by each of 6.
        self.assertEqual([part[1] for part in behind(THREE, *[("dual", p) for p in range(0, 10)])],
                         [48, 42, 36, 34, 32, 30, 31, 32, 33, 40])

    def test_prices_outside_the_bounds(self):
        self.assertEqual(behind(THREE, ("dual", -1), ("dual", 10), ("dual", -1000000), ("dual", 1000000)),
                         [[0, 54], [0, 47], [0, 6000048], [0, 4 * 999998 + 3 * 999995]])

    def test_empty_book(self):
        self.assertEqual(last(("open", 0, 9), ("dual", 1000000)), [0, 0])

    def test_slanting_orders(self):
        self.assertEqual([part[1] for part in behind(SLANTING, *[("dual", p) for p in range(-5, 4)])],
                         [14, 12, 11, 10, 10, 10, 11, 13, 15])

    def test_prices_out_of_range(self):
        for p in (-1000001, 1000001, 10 ** 18, -10 ** 18):
            self.assertEqual(last(*THREE, ("dual", p)), [-1])
            self.assertEqual(ask(("dual", p)), [[-1]])

    def test_without_a_session(self):
        self.assertEqual(ask(("dual", 0)), [[-2]])


if __name__ == "__main__":
    unittest.main()
