"""The widest inputs: all orders, all calls, the largest numbers."""

import unittest
from random import Random
from time import perf_counter

from quarterprice.zone import answers
from tests.helper import ask, behind, flat, last, split
from tests.slow import make, worth_by_prices

LOW = -1000000
HIGH = 1000000
MOST = 1000000000
SECONDS = 20


def wide_orders(seed, spread):
    """64 orders around a middle, with limits up to 10000 apart."""
    chance = Random(seed)
    orders = []
    for k in range(64):
        p0 = chance.randint(-spread, spread - 10000)
        p1 = p0 + chance.choice((0, 1, 9999, 10000, chance.randint(0, 10000)))
        orders.append((chance.choice(("sell", "buy")), p0, p1, chance.randint(MOST - 10, MOST)))
    return orders


def ready(order, p):
    side, p0, p1, q = order
    if side == "sell":
        return q if p >= p1 else 0 if p <= p0 else q * (p - p0) // (p1 - p0)
    return q if p <= p0 else 0 if p >= p1 else q * (p1 - p) // (p1 - p0)


def total(orders, side, p):
    return sum(ready(order, p) for order in orders if order[0] == side)


def supports(orders, p):
    return (LOW <= p <= HIGH and total(orders, "sell", p - 1) <= total(orders, "buy", p)
            and total(orders, "buy", p + 1) <= total(orders, "sell", p))


def price_and_shares(start):
    clear, shares = behind(start, ("clear",), ("shares",))
    return clear[1], shares[1:]


class WidestTest(unittest.TestCase):
    def check_outcome(self, orders):
        parts = ask(("open", LOW, HIGH), *orders, ("range",), ("clear",), ("shares",))
        least, greatest = parts[-3][1:]
        price, volume = parts[-2][1:]
        # Those that support have no gaps, so the two ends tell them all.
        self.assertTrue(supports(orders, least) and supports(orders, greatest) and least <= greatest)
        self.assertFalse(supports(orders, least - 1) or supports(orders, greatest + 1))
        self.assertEqual(price, (least + greatest) // 2)
        self.assertEqual(volume, min(total(orders, "sell", price), total(orders, "buy", price)))
        self.check_shares(orders, price, volume, parts[-1][1:])

    def check_shares(self, orders, price, volume, given):
        self.assertEqual(len(given), len(orders))
        for order, amount in zip(orders, given):
            worse = price - 1 if order[0] == "sell" else price + 1
            self.assertTrue(ready(order, worse) <= amount <= ready(order, price))
        for side in ("sell", "buy"):
            self.assertEqual(sum(amount for order, amount in zip(orders, given) if order[0] == side), volume)

    def test_wide_books(self):
        for seed in range(40):
            for spread in (10000, 20000, 1000000):
                self.check_outcome(wide_orders(seed, spread))

    def test_all_at_one_price(self):
        orders = [("sell", 7, 7, MOST)] * 33 + [("buy", 7, 7, MOST)] * 31
        parts = ask(("open", LOW, HIGH), *orders, ("range",), ("clear",), ("shares",))
        self.assertEqual(parts[-3:-1], [[0, 7, 7], [0, 7, 31 * MOST]])
        # 31 * 10^9 over 33: 939393939 each and 13 units left for the earliest.
        self.assertEqual(parts[-1][1:], [939393940] * 13 + [939393939] * 20 + [MOST] * 31)

    def test_far_apart(self):
        parts = ask(("open", LOW, HIGH), ("sell", HIGH, HIGH, MOST), ("buy", LOW, LOW, MOST), ("range",), ("clear",),
                    ("shares",))
        self.assertEqual(parts[3:], [[0, LOW, HIGH], [0, 0, 0], [0, 0, 0]])
        parts = ask(("open", LOW, HIGH), ("sell", LOW, LOW, MOST), ("buy", HIGH, HIGH, MOST), ("range",), ("clear",),
                    ("shares",))
        self.assertEqual(parts[3:], [[0, LOW, HIGH], [0, 0, MOST], [0, MOST, MOST]])

    def test_four_hundred_calls_in_reasonable_time(self):
        for asked in (("shares",), ("range",), ("clear",), ("share", 1), ("surplus", 64), ("welfare",), ("gain", 7),
                      ("ladder", 0), ("price_for", 1, 32 * MOST // 3), ("dual", -1), ("book",)):
            calls = [("open", LOW, HIGH)] + wide_orders(5, 20000) + [asked] * 335
            self.assertEqual(len(calls), 400)
            begun = perf_counter()
            parts = split(answers(flat(calls)))
            self.assertLess(perf_counter() - begun, SECONDS)
            self.assertEqual(parts[65:], [parts[65]] * 335)

    def test_four_hundred_calls_on_the_book(self):
        calls = [("open", LOW, HIGH)] + [("sell", 0, 10000, MOST)] * 64
        expected = [[0]] + [[0, k] for k in range(1, 65)]
        for k in range(1, 112):
            calls += [("cut", 1, MOST - k), ("move", 1, k, 10000), ("supply", HIGH)]
            expected += [[0, 1], [0], [0, 64 * MOST - k]]
        calls += [("sell", 0, 0, 1), ("cancel", 64)]
        expected += [[-4], [0, MOST]]
        self.assertEqual(len(calls), 400)
        self.assertEqual(ask(*calls), expected)

    def test_numbers_go_on_past_the_book(self):
        calls = [("open", 0, 0)]
        expected = [[0]]
        for n in range(1, 200):
            calls += [("buy", 0, 0, n), ("cancel", n)]
            expected += [[0, n], [0, n]]
        self.assertEqual(ask(*calls), expected)


class WorthTest(unittest.TestCase):
    """surplus, welfare, gain, worth and dual with the largest amounts, limits up to 10000 apart and 64 orders."""

    def worth(self, order, x):
        side, p0, p1, q = order
        return worth_by_prices(make(1, 0 if side == "sell" else 1, p0, p1, q), x)

    def gain(self, order, x, p):
        return self.worth(order, x) + (p * x if order[0] == "sell" else -p * x)

    def test_against_the_limits_price_by_price(self):
        for seed, spread in ((1, 10000), (2, 12000), (3, 1000000)):
            orders = wide_orders(seed, spread)
            start = (("open", LOW, HIGH), *orders)
            price, shares = price_and_shares(start)
            parts = behind(start, ("welfare",), ("worth", shares), ("dual", price), ("dual", price + 77),
                           *[("surplus", n) for n in range(1, 65)], ("check", price, shares))
            welfare = sum(self.worth(order, x) for order, x in zip(orders, shares))
            self.assertEqual(parts[:3], [[0, welfare]] * 3, seed)
            self.assertEqual(parts[3], [0, sum(self.gain(o, ready(o, price + 77), price + 77) for o in orders)], seed)
            self.assertEqual(parts[4:68], [[0, self.gain(o, x, price)] for o, x in zip(orders, shares)], seed)
            self.assertEqual(parts[68], [0, 1], seed)

    def test_gain_is_what_is_missing_without_the_order(self):
        orders = wide_orders(9, 12000)
        start = (("open", LOW, HIGH), *orders)
        welfare = last(*start, ("welfare",))[1]
        told = behind(start, *[("gain", n) for n in range(1, 65)])
        for place in range(64):
            rest = orders[:place] + orders[place + 1:]
            self.assertEqual(told[place], [0, welfare - last(("open", LOW, HIGH), *rest, ("welfare",))[1]], place)

    def test_above_the_53rd_bit_by_hand(self):
        # Sold from -1000000 on and bought up to 1000000, 10000 apart: 100000 units at each price but the first.
        orders = [("sell", LOW, LOW + 10000, MOST), ("buy", HIGH - 10000, HIGH, MOST)] * 32
        one = MOST * HIGH - 100000 * (10000 * 10001 // 2)
        start = (("open", LOW, HIGH), *orders)
        self.assertEqual(one, 994999500000000)
        self.assertEqual(behind(start, ("clear",), ("welfare",), ("worth", [MOST] * 64), ("surplus", 1),
                                ("surplus", 2)),
                         [[0, 0, 32 * MOST], [0, 64 * one], [0, 64 * one], [0, one], [0, one]])
        # The dearest unit of one seller goes, with the worst of the buyers' at the price of before.
        self.assertEqual(behind(start, ("worth", [MOST - 1, MOST - 1] + [MOST] * 62)), [[0, 64 * one - 2 * 990000]])
        self.assertEqual(behind(start, ("dual", HIGH), ("dual", LOW)), [[0, 32 * (one + MOST * HIGH)]] * 2)
        # Far above 2^53, and the last digit is still there.
        self.assertEqual(behind((("open", LOW, HIGH), ("sell", LOW, LOW, MOST), ("buy", HIGH, HIGH, MOST - 1),
                                 ("buy", 999999, 999999, 1), ("sell", LOW, LOW, MOST), ("buy", HIGH, HIGH, MOST),
                                 *[("sell", LOW, LOW, MOST), ("buy", HIGH, HIGH, MOST)] * 20), ("welfare",)),
                         [[0, 22 * 2 * HIGH * MOST - 1]])

    def test_below_zero_and_beyond_the_53rd_bit(self):
        orders = [("sell", HIGH, HIGH, MOST), ("buy", LOW, LOW, MOST)] * 32
        start = (("open", LOW, HIGH), *orders)
        self.assertEqual(behind(start, ("welfare",), ("worth", [MOST] * 64), ("worth", [MOST - 1] * 64)),
                         [[0, 0], [0, -64 * HIGH * MOST], [0, -64 * HIGH * (MOST - 1)]])

    def test_four_hundred_calls_mixed(self):
        orders = wide_orders(4, 12000)
        start = [("open", LOW, HIGH), *orders]
        price, shares = price_and_shares(start)
        asked = []
        for n in range(1, 65):
            asked += [("surplus", n), ("gain", n), ("welfare",), ("dual", price)]
        asked += [("worth", shares), ("check", price, shares)] * 39 + [("welfare",)]
        self.assertEqual(len(start) + len(asked), 400)
        self.assertLessEqual(len(flat(start + asked)), 17000)
        begun = perf_counter()
        parts = behind(start, *asked)
        self.assertLess(perf_counter() - begun, SECONDS)
        welfare = parts[-1][1]
        self.assertEqual(sum(part[1] for call, part in zip(asked, parts) if call[0] == "surplus"), welfare)
        for call, part in zip(asked, parts):
            if call[0] in ("welfare", "dual", "worth"):
                self.assertEqual(part, [0, welfare])
            elif call[0] == "check":
                self.assertEqual(part, [0, 1])
            elif call[0] == "gain":
                self.assertGreaterEqual(part[1], parts[asked.index(("surplus", call[1]))][1])

    def test_mirror_and_shift_of_wide_books(self):
        orders = wide_orders(6, 12000)
        told = (("book",), ("range",), ("clear",), ("shares",), ("welfare",), ("gain", 5), ("surplus", 6), ("dual", 3))
        start = (("open", -12000, 12000), *orders)
        before = behind(start, *told)
        self.assertEqual(behind(start, ("mirror",), ("shift", 988000), ("shift", -988000), ("mirror",), *told)[4:],
                         before)
        self.assertEqual(behind(start, ("shift", -988000), ("welfare",), ("gain", 5), ("mirror",), ("welfare",))[1:],
                         [before[4], before[5], [0], before[4]])


if __name__ == "__main__":
    unittest.main()
