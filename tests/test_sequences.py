"""Many sequences of all calls mixed, against a slow reading of the words."""

import unittest

from quarterprice.zone import answers
from tests.drawn import NAMES, drawn_calls
from tests.helper import NUMBERS, ask, flat
from tests.slow import SELLS

SEEDS = range(1200)


class SequencesTest(unittest.TestCase):
    @classmethod
    def setUpClass(cls):
        cls.drawn = [drawn_calls(seed) for seed in SEEDS]

    def test_against_the_words(self):
        for seed, (calls, expected, zone) in zip(SEEDS, self.drawn):
            self.assertEqual(ask(*calls), expected, (seed, calls))

    def test_each_answer_that_a_call_may_give_was_drawn(self):
        seen = {(call[0], answer[0]) for calls, expected, zone in self.drawn for call, answer in zip(calls, expected)}
        for name in NUMBERS:
            self.assertIn((name, 0), seen)
            if name != "open":
                self.assertIn(name, NAMES)
        for name, refusals in (("sell", (-1, -2, -3)), ("buy", (-1, -2, -3)), ("cancel", (-1, -3)),
                               ("cut", (-1, -3, -4)), ("move", (-1, -3, -4)), ("share", (-1, -3)),
                               ("surplus", (-1, -3)), ("gain", (-1, -3)), ("ladder", (-1,)), ("price_for", (-1, -3)),
                               ("check", (-1, -3)), ("worth", (-1, -3, -4)), ("shift", (-1, -3))):
            for refusal in refusals:
                self.assertIn((name, refusal), seen)
        checked = {tuple(answer) for calls, expected, zone in self.drawn for call, answer in zip(calls, expected)
                   if call[0] == "check"}
        self.assertLessEqual({(0, 0), (0, 1)}, checked)

    def test_same_list_twice_is_answered_alike_and_left_as_it_was(self):
        for seed, (calls, expected, zone) in zip(SEEDS, self.drawn):
            handed = flat(calls)
            before = list(handed)
            first = answers(handed)
            self.assertEqual(handed, before, seed)
            self.assertEqual(answers(handed), first, seed)
            self.assertEqual(handed, before, seed)

    def test_shares_come_to_the_volume_on_each_side(self):
        for seed, (calls, expected, zone) in zip(SEEDS, self.drawn):
            parts = ask(*calls)
            amounts, volume = parts[-2][1:], parts[-3][2]
            self.assertEqual(len(amounts), len(zone.book), seed)
            for order, amount in zip(zone.book, amounts):
                self.assertTrue(0 <= amount <= order["q"], seed)
            sold = sum(amount for order, amount in zip(zone.book, amounts) if order["side"] == SELLS)
            self.assertEqual((sold, sum(amounts) - sold), (volume, volume), seed)


if __name__ == "__main__":
    unittest.main()
