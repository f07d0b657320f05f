"""Stage 1, ratios, with [0.1], [0.4], [0.5] and [0.9]."""

import math
import random
import unittest
from fractions import Fraction

from stepletters.base import ratios
from support import HUGE, LONGER, SIXTY, Case, any_values, fraction, ratio

SOME = [(0, 1), (1, 1), (-1, 1), (1, 2), (-3, 2), (7, 5), (SIXTY, 1), (-SIXTY, 1), (1, SIXTY), (SIXTY, SIXTY - 1)]
NOT_RATIOS = [None, True, 0, 1, "1/2", (), (1,), (1, 2, 3), [1, 2], (2, 4), (0, 2), (0, 0), (1, 0), (1, -2), (-1, -2),
              (True, 1), (1, True), (False, 1), ("1", 2), (1, None), ((1, 2), 1), {1: 2}, (LONGER, 1), (1, LONGER),
              (HUGE, 1), (-LONGER, 7)]


def is_right_integer(value):
    """The plain reading of [0.1]."""
    return type(value) is int and len(str(abs(value))) <= 60


class RatiosTest(Case):
    def test_is_integer(self):
        for value in any_values():
            self.assertIs(ratios.is_integer(value), is_right_integer(value), repr(value)[:80])
        for value in (SIXTY, -SIXTY):
            self.assertIs(ratios.is_integer(value), True)
        for value in (LONGER, -LONGER, HUGE):
            self.assertIs(ratios.is_integer(value), False)

    def test_is_ratio(self):
        for value in SOME:
            self.assertIs(ratios.is_ratio(value), True)
        for value in NOT_RATIOS:
            self.assertIs(ratios.is_ratio(value), False, repr(value)[:80])
        for value in any_values():
            right = (type(value) is tuple and len(value) == 2 and all(map(is_right_integer, value))
                     and value[1] > 0 and math.gcd(*value) == 1)
            self.assertIs(ratios.is_ratio(value), right, repr(value)[:80])

    def test_lowest(self):
        for top in (0, 1, -6, 12, 35, SIXTY):
            for bottom in (1, -1, 2, -4, 30, -SIXTY):
                self.same(ratios.lowest(top, bottom), ratio(Fraction(top, bottom)))

    def test_lowest_errors(self):
        for value in any_values():
            if not is_right_integer(value):
                self.fails("InvalidNumber", value, ratios.lowest, value, None)
                self.fails("InvalidNumber", value, ratios.lowest, 1, value)
        self.fails("InvalidNumber", 0, ratios.lowest, 0, 0)
        self.fails("InvalidNumber", LONGER, ratios.lowest, LONGER, 0)

    def test_the_four_ways_to_reckon(self):
        for one in SOME:
            for other in SOME:
                a, b = fraction(one), fraction(other)
                self.same(ratios.plus(one, other), ratio(a + b))
                self.same(ratios.minus(one, other), ratio(a - b))
                self.same(ratios.times(one, other), ratio(a * b))
                self.assertEqual(ratios.compare(one, other), (a > b) - (a < b))
                if b:
                    self.same(ratios.over(one, other), ratio(a / b))
                else:
                    self.fails("InvalidOperation", None, ratios.over, one, other)

    def test_many_ratios(self):
        dice = random.Random(1)
        for _ in range(500):
            a, b = [Fraction(dice.randint(-30, 30), dice.randint(1, 30)) for _ in range(2)]
            self.same(ratios.plus(ratio(a), ratio(b)), ratio(a + b))
            self.same(ratios.minus(ratio(a), ratio(b)), ratio(a - b))
            self.same(ratios.times(ratio(a), ratio(b)), ratio(a * b))
            self.assertEqual(ratios.compare(ratio(a), ratio(b)), (a > b) - (a < b))

    def test_results_can_be_longer(self):
        self.same(ratios.times((SIXTY, 1), (SIXTY, 1)), (SIXTY * SIXTY, 1))
        self.same(ratios.plus((1, SIXTY), (1, SIXTY - 1)), (2 * SIXTY - 1, SIXTY * (SIXTY - 1)))

    def test_errors_of_wrong_ratios(self):
        for call in (ratios.plus, ratios.minus, ratios.times, ratios.over, ratios.compare):
            for value in NOT_RATIOS:
                self.fails("InvalidRatio", None, call, value, (1, 2))
                self.fails("InvalidRatio", None, call, (1, 2), value)
                self.fails("InvalidRatio", None, call, value, (0, 1))
        # the first ratio is refused ahead of the division by 0, and so is the second one
        self.fails("InvalidRatio", None, ratios.over, (2, 4), (0, 1))
        self.fails("InvalidRatio", None, ratios.over, (1, 2), (0, 2))

    def test_texts(self):
        told = {(0, 1): "0", (1, 1): "1", (-1, 1): "-1", (-3, 2): "-3/2", (7, 5): "7/5",
                (-SIXTY, 2): "-" + "9" * 60 + "/2", (1, SIXTY): "1/" + "9" * 60}
        for value, text in told.items():
            self.same(ratios.ratio_text(value), text)
        for value in NOT_RATIOS:
            self.fails("InvalidRatio", None, ratios.ratio_text, value)


if __name__ == "__main__":
    unittest.main()
