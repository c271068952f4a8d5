"""Drawn sequences of calls, mostly ordinary ones, each drawn from what the book holds by then."""

from random import Random

from tests.slow import MOST, SELLS, SlowZone

NAMES = ("sell",) * 8 + ("buy",) * 8 + (
    "cancel", "cut", "cut", "move", "move", "supply", "demand", "range", "clear", "shares", "share", "surplus",
    "surplus", "welfare", "gain", "gain", "ladder", "ladder", "price_for", "price_for", "check", "check", "check",
    "worth", "worth", "worth", "dual", "dual", "book", "mirror", "shift", "shift")
LOWS = (-15, -3, 0, 5, -1000000, 999980)


def random_good(chance, book):
    """A good allocation: what is drawn for the sides, the greater side cut to the less."""
    amounts = [chance.randint(0, order["q"]) for order in book]
    for side in (SELLS, 1 - SELLS):
        mine = sum(a for o, a in zip(book, amounts) if o["side"] == side)
        over = mine - (sum(amounts) - mine)
        for place, order in enumerate(book):
            if order["side"] == side and over > 0:
                off = min(over, amounts[place])
                amounts[place] -= off
                over -= off
    return amounts


def random_amounts(chance, zone):
    """The shares, other good allocations, or ones that are not good, too long or out of range."""
    draw = chance.random()
    amounts = zone.shares() if zone.bounds and draw < 0.6 else random_good(chance, zone.book)
    if amounts and 0.35 < draw < 0.75:
        amounts[chance.randrange(len(amounts))] += chance.choice((-1, 1))
    if amounts and 0.45 < draw < 0.75:
        amounts[chance.randrange(len(amounts))] += chance.choice((-1, 1))
    if draw > 0.95:
        amounts = amounts + [chance.choice((0, 1, -1, MOST, MOST + 1))]
    elif draw > 0.92:
        amounts = amounts[1:]
    elif draw > 0.91:
        amounts = [0] * chance.randint(64, 100)
    return amounts


def random_price(chance, zone, low, high):
    if zone.bounds and chance.random() < 0.5:
        return zone.price_and_volume()[0] + chance.choice((-1, 0, 0, 0, 1))
    return chance.randint(low - 2, high + 2)


def random_limits(chance, low, high):
    limits = [chance.randint(low, high), chance.randint(low, high)]
    if chance.random() < 0.9:
        limits.sort()
    if chance.random() < 0.3:
        limits[1] = limits[0]
    if chance.random() < 0.04:
        limits[chance.randint(0, 1)] += chance.choice((-1, 1, 10001, -2000000)) * chance.randint(1, 3)
    return limits


def random_volume(chance, zone):
    most = sum(order["q"] for order in zone.book) or 1
    return chance.choice((chance.randint(1, most), chance.randint(1, most), most, 1, 0, 64 * MOST, 64 * MOST + 1))


def random_shift(chance, low, high):
    return chance.choice((chance.randint(-20, 20), chance.randint(-20, 20), -1000000 - low, 1000000 - high,
                          -1000001 - low, 1000001 - high, -2000000, 2000000, 2000001, -2000001))


def random_call(chance, zone, most):
    """One call, near the bounds and the orders that are there."""
    low, high = zone.bounds or (-3, 3)
    name = chance.choice(NAMES)
    n = chance.choice([order["n"] for order in zone.book] or [1])
    if chance.random() < 0.1:
        n = chance.choice((0, -1, n + 1, zone.given + 1, 10 ** 18, 10 ** 18 + 1))
    amount = chance.randint(0 if chance.random() < 0.05 else 1, most)
    side = chance.randint(0, 1) if chance.random() < 0.95 else chance.choice((-1, 2, 10 ** 18))
    if name in ("sell", "buy"):
        return (name, *random_limits(chance, low, high), amount)
    if name in ("cancel", "share", "surplus", "gain"):
        return (name, n)
    if name == "cut":
        return (name, n, amount)
    if name == "move":
        return (name, n, *random_limits(chance, low, high))
    if name in ("supply", "demand", "dual"):
        return (name, random_price(chance, zone, low, high))
    if name == "ladder":
        return (name, side)
    if name == "price_for":
        return (name, side, random_volume(chance, zone))
    if name == "check":
        return (name, random_price(chance, zone, low, high), random_amounts(chance, zone))
    if name == "worth":
        return (name, random_amounts(chance, zone))
    if name == "shift":
        return (name, random_shift(chance, low, high))
    return (name,)


def drawn_calls(seed):
    """Calls, the answers that the slow reading gives to them, and the zone behind them."""
    chance = Random(seed)
    most = chance.choice((1, 3, 10, 100, MOST))
    low = chance.choice(LOWS)
    begin = ("open", low, low + chance.choice((0, 1, 2, 5, 12, 20)))
    zone = SlowZone()
    calls = []
    expected = []

    def add(call):
        calls.append(call)
        expected.append(zone.answer(*call))

    if chance.random() < 0.1:
        add(random_call(chance, zone, most))
    add(begin)
    for step in range(chance.randint(5, 45)):
        add(random_call(chance, zone, most))
        if chance.random() < 0.01:
            add(begin)
    for name in ("book", "range", "clear", "shares", "welfare"):
        add((name,))
    return calls, expected, zone
