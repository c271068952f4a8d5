"""The widest inputs: all orders, all calls, the largest numbers."""

import unittest
from random import Random
from time import perf_counter

from quarterprice.zone import answers
from tests.helper import ask, flat, split

LOW = -1000000
HIGH = 1000000
MOST = 1000000000
SECONDS = 20


def wide_orders(seed, spread):
    """64 orders around a middle, with limits up to 10000 apart."""
    chance = Random(seed)
    orders = []
    for k in range(64):
        p0 = chance.randint(-spread, spread - 10000)
        p1 = p0 + chance.choice((0, 1, 9999, 10000, chance.randint(0, 10000)))
        orders.append((chance.choice(("sell", "buy")), p0, p1, chance.randint(MOST - 10, MOST)))
    return orders


def ready(order, p):
    side, p0, p1, q = order
    if side == "sell":
        return q if p >= p1 else 0 if p <= p0 else q * (p - p0) // (p1 - p0)
    return q if p <= p0 else 0 if p >= p1 else q * (p1 - p) // (p1 - p0)


def total(orders, side, p):
    return sum(ready(order, p) for order in orders if order[0] == side)


def supports(orders, p):
    return (LOW <= p <= HIGH and total(orders, "sell", p - 1) <= total(orders, "buy", p)
            and total(orders, "buy", p + 1) <= total(orders, "sell", p))


class WidestTest(unittest.TestCase):
    def check_outcome(self, orders):
        parts = ask(("open", LOW, HIGH), *orders, ("range",), ("clear",), ("shares",))
        least, greatest = parts[-3][1:]
        price, volume = parts[-2][1:]
        # Those that support have no gaps, so the two ends tell them all.
        self.assertTrue(supports(orders, least) and supports(orders, greatest) and least <= greatest)
        self.assertFalse(supports(orders, least - 1) or supports(orders, greatest + 1))
        self.assertEqual(price, (least + greatest) // 2)
        self.assertEqual(volume, min(total(orders, "sell", price), total(orders, "buy", price)))
        self.check_shares(orders, price, volume, parts[-1][1:])

    def check_shares(self, orders, price, volume, given):
        self.assertEqual(len(given), len(orders))
        for order, amount in zip(orders, given):
            worse = price - 1 if order[0] == "sell" else price + 1
            self.assertTrue(ready(order, worse) <= amount <= ready(order, price))
        for side in ("sell", "buy"):
            self.assertEqual(sum(amount for order, amount in zip(orders, given) if order[0] == side), volume)

    def test_wide_books(self):
        for seed in range(40):
            for spread in (10000, 20000, 1000000):
                self.check_outcome(wide_orders(seed, spread))

    def test_all_at_one_price(self):
        orders = [("sell", 7, 7, MOST)] * 33 + [("buy", 7, 7, MOST)] * 31
        parts = ask(("open", LOW, HIGH), *orders, ("range",), ("clear",), ("shares",))
        self.assertEqual(parts[-3:-1], [[0, 7, 7], [0, 7, 31 * MOST]])
        # 31 * 10^9 over 33: 939393939 each and 13 units left for the earliest.
        self.assertEqual(parts[-1][1:], [939393940] * 13 + [939393939] * 20 + [MOST] * 31)

    def test_far_apart(self):
        parts = ask(("open", LOW, HIGH), ("sell", HIGH, HIGH, MOST), ("buy", LOW, LOW, MOST), ("range",), ("clear",),
                    ("shares",))
        self.assertEqual(parts[3:], [[0, LOW, HIGH], [0, 0, 0], [0, 0, 0]])
        parts = ask(("open", LOW, HIGH), ("sell", LOW, LOW, MOST), ("buy", HIGH, HIGH, MOST), ("range",), ("clear",),
                    ("shares",))
        self.assertEqual(parts[3:], [[0, LOW, HIGH], [0, 0, MOST], [0, MOST, MOST]])

    def test_four_hundred_calls_in_reasonable_time(self):
        for name in ("shares", "range", "clear", "share"):
            asked = (name, 1) if name == "share" else (name,)
            calls = [("open", LOW, HIGH)] + wide_orders(5, 20000) + [asked] * 335
            self.assertEqual(len(calls), 400)
            begun = perf_counter()
            parts = split(answers(flat(calls)))
            self.assertLess(perf_counter() - begun, SECONDS)
            self.assertEqual(parts[65:], [parts[65]] * 335)

    def test_four_hundred_calls_on_the_book(self):
        calls = [("open", LOW, HIGH)] + [("sell", 0, 10000, MOST)] * 64
        expected = [[0]] + [[0, k] for k in range(1, 65)]
        for k in range(1, 112):
            calls += [("cut", 1, MOST - k), ("move", 1, k, 10000), ("supply", HIGH)]
            expected += [[0, 1], [0], [0, 64 * MOST - k]]
        calls += [("sell", 0, 0, 1), ("cancel", 64)]
        expected += [[-4], [0, MOST]]
        self.assertEqual(len(calls), 400)
        self.assertEqual(ask(*calls), expected)

    def test_numbers_go_on_past_the_book(self):
        calls = [("open", 0, 0)]
        expected = [[0]]
        for n in range(1, 200):
            calls += [("buy", 0, 0, n), ("cancel", n)]
            expected += [[0, n], [0, n]]
        self.assertEqual(ask(*calls), expected)


if __name__ == "__main__":
    unittest.main()
