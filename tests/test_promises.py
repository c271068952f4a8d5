"""Shares are a good allocation that check says 1 of, and no good allocation is worth more than welfare."""

import unittest
from itertools import product
from random import Random

from tests.drawn import drawn_calls, random_good
from tests.helper import behind, last
from tests.slow import is_good, worth_by_units
from tests.test_worth import drawn_orders, entered


class PromisesTest(unittest.TestCase):
    def test_shares_are_good_and_check_says_so(self):
        for seed in range(1200):
            calls, expected, zone = drawn_calls(seed)
            price, volume, shares = expected[-3][1], expected[-3][2], expected[-2][1:]
            parts = behind(calls, ("clear",), ("shares",), ("check", price, shares), ("worth", shares), ("welfare",))
            self.assertEqual(parts[:3], [[0, price, volume], [0, *shares], [0, 1]], seed)
            self.assertTrue(is_good(zone.book, shares), seed)
            self.assertEqual(parts[3], parts[4], seed)

    def test_shares_are_checked_at_each_price_that_supports(self):
        for seed in range(300):
            calls, expected, zone = drawn_calls(seed)
            price, shares = expected[-3][1], expected[-2][1:]
            prices = range(zone.bounds[0] - 1, zone.bounds[1] + 2)
            told = behind(calls, *[("check", p, shares) for p in prices if abs(p) <= 1000000])
            fitting = [p for p, part in zip([p for p in prices if abs(p) <= 1000000], told) if part == [0, 1]]
            self.assertIn(price, fitting, seed)
            self.assertLessEqual(set(fitting), set(zone.supporting()), seed)

    def test_no_good_allocation_is_worth_more(self):
        for seed in range(150):
            chance = Random(seed)
            low, high = chance.choice(((0, 9), (-9, 0), (-5, 5), (-3, -3), (2, 4)))
            orders = drawn_orders(chance, low, high, 3, chance.randint(1, 4))
            start = (("open", low, high), *entered(orders))
            welfare = last(*start, ("welfare",))[1]
            every = [list(amounts) for amounts in product(*[range(order["q"] + 1) for order in orders])]
            best = None
            for amounts, part in zip(every, behind(start, *[("worth", amounts) for amounts in every])):
                if not is_good(orders, amounts):
                    self.assertEqual(part, [-4], (seed, amounts))
                    continue
                self.assertEqual(part, [0, sum(worth_by_units(o, a) for o, a in zip(orders, amounts))], (seed, amounts))
                best = part[1] if best is None else max(best, part[1])
            self.assertEqual(best, welfare, seed)

    def test_no_drawn_good_allocation_is_worth_more(self):
        for seed in range(300):
            chance = Random(seed)
            calls, expected, zone = drawn_calls(seed)
            drawn = [random_good(chance, zone.book) for time in range(20)]
            for part in behind(calls, *[("worth", amounts) for amounts in drawn]):
                self.assertEqual(part[0], 0, seed)
                self.assertLessEqual(part[1], expected[-1][1], seed)


if __name__ == "__main__":
    unittest.main()
