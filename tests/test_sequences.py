"""Many sequences of calls, against a slow reading of the words."""

import unittest
from fractions import Fraction
from math import floor
from random import Random

from tests.helper import ask

SELLS = 0
BUYS = 1


def ready(order, p):
    p0, p1, q = order["p0"], order["p1"], order["q"]
    if order["side"] == SELLS:
        return q if p >= p1 else 0 if p <= p0 else floor(Fraction(q * (p - p0), p1 - p0))
    return q if p <= p0 else 0 if p >= p1 else floor(Fraction(q * (p1 - p), p1 - p0))


def sure(order, p):
    return ready(order, p - 1 if order["side"] == SELLS else p + 1)


class SlowZone:
    """Every call as the words tell it, each price from bound to bound tried."""

    def __init__(self):
        self.bounds = None
        self.book = []
        self.given = 0

    def total(self, side, p):
        return sum(ready(order, p) for order in self.book if order["side"] == side)

    def supporting(self):
        low, high = self.bounds
        return [p for p in range(low, high + 1)
                if self.total(SELLS, p - 1) <= self.total(BUYS, p) and self.total(BUYS, p + 1) <= self.total(SELLS, p)]

    def price_and_volume(self):
        prices = self.supporting()
        p = floor(Fraction(min(prices) + max(prices), 2))
        return p, min(self.total(SELLS, p), self.total(BUYS, p))

    def shares(self):
        p, volume = self.price_and_volume()
        given = {}
        for side in (SELLS, BUYS):
            orders = [order for order in self.book if order["side"] == side]
            rest = volume - sum(sure(order, p) for order in orders)
            money = [ready(order, p) - sure(order, p) for order in orders]
            exact = [Fraction(rest * m, sum(money)) if sum(money) else Fraction(0) for m in money]
            got = [sure(order, p) + floor(x) for order, x in zip(orders, exact)]
            while sum(got) < volume:
                best = max(x - floor(x) for x in exact)
                first = [x - floor(x) for x in exact].index(best)
                got[first] += 1
                exact[first] = Fraction(0)
            for order, amount in zip(orders, got):
                given[order["n"]] = amount
        return [given[order["n"]] for order in self.book]

    def find(self, n):
        return next((k for k, order in enumerate(self.book) if order["n"] == n), None)

    def in_range(self, name, numbers):
        price = [abs(x) <= 1000000 for x in numbers]
        if name == "open":
            return all(price) and numbers[0] <= numbers[1]
        if name in ("sell", "buy"):
            p0, p1, q = numbers
            return all(price[:2]) and 0 <= p1 - p0 <= 10000 and 1 <= q <= 10 ** 9
        if name in ("cancel", "share"):
            return abs(numbers[0]) <= 10 ** 18
        if name == "cut":
            return abs(numbers[0]) <= 10 ** 18 and 1 <= numbers[1] <= 10 ** 9
        if name == "move":
            return abs(numbers[0]) <= 10 ** 18 and all(price[1:]) and 0 <= numbers[2] - numbers[1] <= 10000
        return all(price)

    def answer(self, name, *numbers):
        if not self.in_range(name, numbers):
            return [-1]
        if name == "open":
            self.bounds, self.book, self.given = numbers, [], 0
            return [0]
        if self.bounds is None:
            return [-2]
        if name in ("sell", "buy"):
            return self.enter(SELLS if name == "sell" else BUYS, *numbers)
        if name in ("cancel", "cut", "move", "share"):
            place = self.find(numbers[0])
            return [-3] if place is None else self.on_order(name, place, *numbers[1:])
        if name in ("supply", "demand"):
            return [0, self.total(SELLS if name == "supply" else BUYS, numbers[0])]
        if name == "range":
            return [0, min(self.supporting()), max(self.supporting())]
        if name == "clear":
            return [0, *self.price_and_volume()]
        return [0, *self.shares()]

    def outside(self, p0, p1):
        return p0 < self.bounds[0] or p1 > self.bounds[1]

    def enter(self, side, p0, p1, q):
        if self.outside(p0, p1):
            return [-3]
        if len(self.book) == 64:
            return [-4]
        self.given += 1
        self.book.append({"n": self.given, "side": side, "p0": p0, "p1": p1, "q": q})
        return [0, self.given]

    def on_order(self, name, place, *numbers):
        order = self.book[place]
        if name == "cancel":
            return [0, self.book.pop(place)["q"]]
        if name == "share":
            return [0, self.shares()[place]]
        if name == "cut":
            if numbers[0] >= order["q"]:
                return [-4]
            less, order["q"] = order["q"] - numbers[0], numbers[0]
            return [0, less]
        if self.outside(*numbers):
            return [-4]
        self.book.append(self.book.pop(place))
        order["p0"], order["p1"] = numbers
        return [0]


NAMES = ("sell",) * 6 + ("buy",) * 6 + ("cancel", "cut", "cut", "move", "move", "supply", "demand", "range", "clear",
                                        "clear", "shares", "shares", "share")


def random_call(chance, low, high, most):
    """One call, mostly an ordinary one, near the bounds low and high."""
    name = chance.choice(NAMES)
    limits = [chance.randint(low, high), chance.randint(low, high)]
    if chance.random() < 0.85:
        limits.sort()
    if chance.random() < 0.3:
        limits[1] = limits[0]
    if chance.random() < 0.05:
        limits[chance.randint(0, 1)] += chance.choice((-1, 1, 10001, -2000000)) * chance.randint(1, 3)
    amount = chance.randint(0 if chance.random() < 0.05 else 1, most)
    n = chance.randint(1, 12) if chance.random() < 0.95 else chance.choice((0, -1, 10 ** 18, 10 ** 18 + 1))
    price = chance.randint(low - 2, high + 2)
    behind = {"sell": (*limits, amount), "buy": (*limits, amount), "cancel": (n,), "cut": (n, amount),
              "move": (n, *limits), "supply": (price,), "demand": (price,), "share": (n,)}
    return (name,) + behind.get(name, ())


def random_calls(seed):
    chance = Random(seed)
    most = chance.choice((1, 3, 10, 100, 1000000000))
    low = chance.randint(-15, 5)
    high = low + chance.choice((0, 1, 2, 5, 12, 20))
    calls = [("open", low, high)]
    if chance.random() < 0.1:
        calls.insert(0, random_call(chance, low, high, most))
    for step in range(chance.randint(5, 40)):
        calls.append(random_call(chance, low, high, most))
        if chance.random() < 0.01:
            calls.append(("open", low, high))
    return calls + [("range",), ("clear",), ("shares",)]


class SequencesTest(unittest.TestCase):
    def test_against_the_words(self):
        for seed in range(1500):
            calls = random_calls(seed)
            slow = SlowZone()
            self.assertEqual(ask(*calls), [slow.answer(*call) for call in calls], (seed, calls))

    def test_shares_are_a_good_allocation(self):
        for seed in range(1500):
            calls = random_calls(seed)
            slow = SlowZone()
            parts = ask(*calls)
            for call, part in zip(calls, parts):
                slow.answer(*call)
                if call[0] == "shares" and part[0] == 0:
                    self.is_good(slow.book, part[1:], seed)
            self.assertEqual(self.is_good(slow.book, parts[-1][1:], seed), parts[-2][2])

    def is_good(self, book, amounts, seed):
        """Fail unless the amounts are a good allocation; the volume of it."""
        self.assertEqual(len(amounts), len(book), seed)
        for order, amount in zip(book, amounts):
            self.assertTrue(0 <= amount <= order["q"], seed)
        sold = sum(amount for order, amount in zip(book, amounts) if order["side"] == SELLS)
        self.assertEqual(sold, sum(amounts) - sold, seed)
        return sold


if __name__ == "__main__":
    unittest.main()
