"""The form in which calls are handed in and answers given back."""

import importlib
import io
import unittest
from contextlib import redirect_stderr, redirect_stdout

from quarterprice.zone import answers

# Two of check and worth, so that what stands behind an allocation is found; none is at the end.
LATER = [0, 0, 9, 1, 2, 2, 4, 1, 5, 5, 3, 2, 8, 8, 6, 12, 1, 13, 14, 1, 15, 0, 16, 0, 5, 17, 5, 3, 4, 2, 6, 17, 5, 0,
         18, 3, 3, 3, 6, 18, 1, 22, 19, 0, 20, 21, 20, 22, -3, 22, 2000001, 8, 15, 1]
LATER_ANSWERS = [1, 0, 2, 0, 1, 2, 0, 2, 2, 0, 3, 2, 0, 12, 2, 0, 30, 2, 0, 21, 3, 0, 1, 2, 2, 0, 5, 2, 0, 1, 1, -3,
                 2, 0, 27, 1, -3, 2, 0, 48, 18, 0, 0, 9, 1, 0, 2, 2, 4, 2, 0, 5, 5, 3, 3, 1, 8, 8, 6, 1, 0,
                 18, 0, -9, 0, 1, 1, -2, -2, 4, 2, 1, -5, -5, 3, 3, 0, -8, -8, 6, 1, 0, 1, -1, 3, 0, -8, -8,
                 3, 0, 1, 2]

# open, sell, buy, supply, demand, range, clear, shares, share, cut, move, cancel and refusals
MIXED = [0, -5, 20, 1, 0, 10, 100, 2, 5, 5, 60, 6, 5, 7, 5, 8, 9, 10, 11, 2,
         4, 1, 40, 5, 1, 3, 3, 10, 3, 1, 3, 1, 11, 7, 6, 1000001]
MIXED_ANSWERS = [1, 0, 2, 0, 1, 2, 0, 2, 2, 0, 50, 2, 0, 60, 3, 0, 5, 5, 3, 0, 5, 50, 3, 0, 50, 50, 2, 0, 50,
                 2, 0, 60, 1, 0, 3, 0, 40, 40, 2, 0, 40, 1, -3, 1, -3, 1, -1]


class Untouched(list):
    """A list that does not let itself be changed, not for a while either."""

    def refuse(self, *args, **kwargs):
        raise AssertionError("the list handed in was changed")

    append = clear = extend = insert = pop = remove = reverse = sort = refuse
    __setitem__ = __delitem__ = __iadd__ = __imul__ = refuse


class InterfaceTest(unittest.TestCase):
    def test_answers_stand_behind_their_counts(self):
        self.assertEqual(answers(MIXED), MIXED_ANSWERS)
        self.assertEqual(answers(LATER), LATER_ANSWERS)

    def test_an_allocation_may_be_empty_or_long(self):
        self.assertEqual(answers([0, 0, 9, 17, 5, 0, 18, 0]), [1, 0, 2, 0, 1, 2, 0, 0])
        self.assertEqual(answers([17, 5, 0]), [1, -2])
        self.assertEqual(answers([18, 100] + [0] * 100 + [17, 0, 100] + [21] * 100 + [0, 4, 4]), [1, -1, 1, -1, 1, 0])

    def test_answers_with_nothing_more_count_one(self):
        self.assertEqual(answers([0, 1, 2]), [1, 0])
        self.assertEqual(answers([0, 1, 2, 10]), [1, 0, 1, 0])

    def test_a_refusal_is_its_number_alone(self):
        self.assertEqual(answers([8]), [1, -2])
        self.assertEqual(answers([0, 2, 1]), [1, -1])
        self.assertEqual(answers([0, 0, 0, 3, 1]), [1, 0, 1, -3])

    def test_numbers_below_zero_may_stand_behind_the_zero(self):
        self.assertEqual(answers([0, -9, -4, 8, 9]), [1, 0, 3, 0, -9, -4, 3, 0, -7, 0])

    def test_gives_back_a_list_of_whole_numbers(self):
        for calls in (MIXED, LATER):
            given = answers(calls)
            self.assertIs(type(given), list)
            for number in given:
                self.assertIs(type(number), int)

    def test_list_handed_in_is_the_same_afterwards(self):
        for calls in (MIXED, LATER):
            handed = list(calls)
            answers(handed)
            self.assertEqual(handed, calls)

    def test_list_handed_in_is_not_changed_for_a_while_either(self):
        self.assertEqual(answers(Untouched(MIXED)), MIXED_ANSWERS)
        self.assertEqual(answers(Untouched(LATER)), LATER_ANSWERS)

    def test_list_given_back_is_not_the_one_handed_in(self):
        handed = list(MIXED)
        given = answers(handed)
        given.clear()
        self.assertEqual(handed, MIXED)
        self.assertEqual(answers(handed), MIXED_ANSWERS)

    def test_nothing_is_kept_from_one_time_to_the_next(self):
        self.assertEqual(answers(MIXED), MIXED_ANSWERS)
        self.assertEqual(answers(LATER), LATER_ANSWERS)
        self.assertEqual(answers([9]), [1, -2])
        self.assertEqual(answers([0, 0, 9, 1, 1, 2, 3]), [1, 0, 2, 0, 1])
        self.assertEqual(answers([0, 0, 9, 10, 2, 1, 2, 3]), [1, 0, 1, 0, 2, 0, 1])
        self.assertEqual(answers(LATER), LATER_ANSWERS)
        self.assertEqual(answers(MIXED), MIXED_ANSWERS)

    def test_prints_nothing(self):
        out = io.StringIO()
        with redirect_stdout(out), redirect_stderr(out):
            answers(MIXED)
            answers(LATER)
        self.assertEqual(out.getvalue(), "")

    def test_module_is_found_by_its_name(self):
        self.assertIs(importlib.import_module("quarterprice.zone").answers, answers)


if __name__ == "__main__":
    unittest.main()
