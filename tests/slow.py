"""A slow reading of the words: every price tried, units and prices gone through one by one."""

from fractions import Fraction
from math import floor

SELLS = 0
BUYS = 1
MOST = 10 ** 9


def make(n, side, p0, p1, q):
    return {"n": n, "side": side, "p0": p0, "p1": p1, "q": q}


def ready(order, p):
    p0, p1, q = order["p0"], order["p1"], order["q"]
    if order["side"] == SELLS:
        return q if p >= p1 else 0 if p <= p0 else q * (p - p0) // (p1 - p0)
    return q if p <= p0 else 0 if p >= p1 else q * (p1 - p) // (p1 - p0)


def sure(order, p):
    return ready(order, p - 1 if order["side"] == SELLS else p + 1)


def unit_limit(order, k):
    """The limit of the k-th unit, by trying each price."""
    fitting = [p for p in range(order["p0"] - 1, order["p1"] + 2) if ready(order, p) >= k]
    return min(fitting) if order["side"] == SELLS else max(fitting)


def worth_by_units(order, x):
    """What x units are worth, unit by unit."""
    limits = sum(unit_limit(order, k) for k in range(1, x + 1))
    return -limits if order["side"] == SELLS else limits


def worth_by_prices(order, x):
    """What x units are worth, price by price: how many of them have just that limit."""
    total = 0
    for p in range(order["p0"], order["p1"] + 1):
        total += p * (min(x, ready(order, p)) - min(x, sure(order, p)))
    return -total if order["side"] == SELLS else total


def gain_of_units(order, x, p):
    return worth_by_prices(order, x) + (p * x if order["side"] == SELLS else -p * x)


def is_good(book, amounts):
    balance = sum(a if order["side"] == SELLS else -a for order, a in zip(book, amounts))
    return len(book) == len(amounts) and all(0 <= a <= o["q"] for o, a in zip(book, amounts)) and balance == 0


def merit(order):
    return (order["p0"], order["p1"]) if order["side"] == SELLS else (-order["p1"], -order["p0"])


class SlowZone:
    """Every call as the words tell it, each price from bound to bound tried."""

    def __init__(self):
        self.bounds = None
        self.book = []
        self.given = 0

    def prices(self):
        return range(self.bounds[0], self.bounds[1] + 1)

    def total(self, side, p):
        return sum(ready(order, p) for order in self.book if order["side"] == side)

    def supporting(self):
        return [p for p in self.prices()
                if self.total(SELLS, p - 1) <= self.total(BUYS, p) and self.total(BUYS, p + 1) <= self.total(SELLS, p)]

    def price_and_volume(self):
        prices = self.supporting()
        p = floor(Fraction(min(prices) + max(prices), 2))
        return p, min(self.total(SELLS, p), self.total(BUYS, p))

    def shares(self):
        p, volume = self.price_and_volume()
        given = {}
        for side in (SELLS, BUYS):
            orders = [order for order in self.book if order["side"] == side]
            rest = volume - sum(sure(order, p) for order in orders)
            money = [ready(order, p) - sure(order, p) for order in orders]
            exact = [Fraction(rest * m, sum(money)) if sum(money) else Fraction(0) for m in money]
            got = [sure(order, p) + floor(x) for order, x in zip(orders, exact)]
            while sum(got) < volume:
                best = max(x - floor(x) for x in exact)
                first = [x - floor(x) for x in exact].index(best)
                got[first] += 1
                exact[first] = Fraction(0)
            for order, amount in zip(orders, got):
                given[order["n"]] = amount
        return [given[order["n"]] for order in self.book]

    def welfare(self):
        return sum(worth_by_prices(order, x) for order, x in zip(self.book, self.shares()))

    def welfare_without(self, place):
        other = SlowZone()
        other.bounds = self.bounds
        other.book = self.book[:place] + self.book[place + 1:]
        return other.welfare()

    def find(self, n):
        return next((k for k, order in enumerate(self.book) if order["n"] == n), None)

    def in_range(self, name, numbers):
        rows = [x for x in numbers if isinstance(x, list)]
        if any(len(row) > 64 or any(not 0 <= a <= MOST for a in row) for row in rows):
            return False
        plain = [x for x in numbers if not isinstance(x, list)]
        price = [abs(x) <= 1000000 for x in plain]
        if name == "open":
            return all(price) and plain[0] <= plain[1]
        if name in ("sell", "buy"):
            p0, p1, q = plain
            return all(price[:2]) and 0 <= p1 - p0 <= 10000 and 1 <= q <= MOST
        if name in ("cancel", "share", "surplus", "gain"):
            return abs(plain[0]) <= 10 ** 18
        if name == "cut":
            return abs(plain[0]) <= 10 ** 18 and 1 <= plain[1] <= MOST
        if name == "move":
            return abs(plain[0]) <= 10 ** 18 and all(price[1:]) and 0 <= plain[2] - plain[1] <= 10000
        if name in ("ladder", "price_for"):
            return plain[0] in (0, 1) and (name == "ladder" or 1 <= plain[1] <= 64 * MOST)
        if name == "shift":
            return abs(plain[0]) <= 2000000
        return all(price)

    def answer(self, name, *numbers):
        if not self.in_range(name, numbers):
            return [-1]
        if name == "open":
            self.bounds, self.book, self.given = numbers, [], 0
            return [0]
        if self.bounds is None:
            return [-2]
        if name in ("sell", "buy"):
            return self.enter(SELLS if name == "sell" else BUYS, *numbers)
        if name in ("cancel", "cut", "move", "share", "surplus", "gain"):
            place = self.find(numbers[0])
            return [-3] if place is None else self.on_order(name, place, *numbers[1:])
        if name in ("check", "worth"):
            return self.on_allocation(name, numbers[-1], *numbers[:-1])
        if name in ("mirror", "shift"):
            return self.on_prices(name, *numbers)
        return self.told(name, *numbers)

    def told(self, name, *numbers):
        """The answers of the calls that change and refuse nothing more, and of price_for."""
        if name in ("supply", "demand"):
            return [0, self.total(SELLS if name == "supply" else BUYS, numbers[0])]
        if name == "range":
            return [0, min(self.supporting()), max(self.supporting())]
        if name == "clear":
            return [0, *self.price_and_volume()]
        if name == "shares":
            return [0, *self.shares()]
        if name == "welfare":
            return [0, self.welfare()]
        if name == "ladder":
            return [0, *[o["n"] for o in sorted(self.book, key=merit) if o["side"] == numbers[0]]]
        if name == "price_for":
            side, v = numbers
            fitting = [p for p in self.prices() if self.total(side, p) >= v]
            return [0, (min, max)[side](fitting)] if fitting else [-3]
        if name == "dual":
            p = numbers[0]
            return [0, sum(gain_of_units(order, ready(order, p), p) for order in self.book)]
        if name == "book":
            return [0, *self.bounds, *[x for o in self.book for x in (o["n"], o["side"], o["p0"], o["p1"], o["q"])]]
        raise AssertionError(name)

    def outside(self, p0, p1):
        return p0 < self.bounds[0] or p1 > self.bounds[1]

    def enter(self, side, p0, p1, q):
        if self.outside(p0, p1):
            return [-3]
        if len(self.book) == 64:
            return [-4]
        self.given += 1
        self.book.append(make(self.given, side, p0, p1, q))
        return [0, self.given]

    def on_order(self, name, place, *numbers):
        order = self.book[place]
        if name == "cancel":
            return [0, self.book.pop(place)["q"]]
        if name == "share":
            return [0, self.shares()[place]]
        if name == "surplus":
            return [0, gain_of_units(order, self.shares()[place], self.price_and_volume()[0])]
        if name == "gain":
            return [0, self.welfare() - self.welfare_without(place)]
        if name == "cut":
            if numbers[0] >= order["q"]:
                return [-4]
            less, order["q"] = order["q"] - numbers[0], numbers[0]
            return [0, less]
        if self.outside(*numbers):
            return [-4]
        self.book.append(self.book.pop(place))
        order["p0"], order["p1"] = numbers
        return [0]

    def on_allocation(self, name, amounts, p=0):
        if len(amounts) != len(self.book):
            return [-3]
        good = is_good(self.book, amounts)
        if name == "worth":
            return [0, sum(worth_by_prices(o, a) for o, a in zip(self.book, amounts))] if good else [-4]
        fits = all(sure(o, p) <= a <= ready(o, p) for o, a in zip(self.book, amounts))
        return [0, 1 if p in self.prices() and good and fits else 0]

    def on_prices(self, name, d=0):
        low, high = self.bounds
        if name == "mirror":
            self.bounds = (-high, -low)
            self.book = [make(o["n"], 1 - o["side"], -o["p1"], -o["p0"], o["q"]) for o in self.book]
            return [0]
        if low + d < -1000000 or high + d > 1000000:
            return [-3]
        self.bounds = (low + d, high + d)
        self.book = [make(o["n"], o["side"], o["p0"] + d, o["p1"] + d, o["q"]) for o in self.book]
        return [0]
