"""Fractions: points 2 and 4, the interface's row `fractions`."""

import copy
import unittest
from fractions import Fraction

from tests.things import GREAT, fraction_as_told, things
from vatmatch.errors import NoNumber
from vatmatch.fractions import (
    below, fraction, greater, is_fraction, is_whole, minus, over, over_one_bottom, plus, times, total,
)

NINES = 10 ** 500 - 1
NUMBERS = [-NINES, -GREAT, -360, -100, -12, -7, -6, -2, -1, 0, 1, 2, 3, 6, 9, 12, 100, 360, 2 ** 70, 3 * 2 ** 1500, GREAT, NINES]
BOTTOMS = [-GREAT, -360, -6, -1, 1, 2, 3, 12, 35, 100, 2 ** 1600, GREAT, NINES]


def told(number):
    """What the program should tell for this number of Python's own fractions."""
    return (number.numerator, number.denominator)


def samples():
    return sorted({Fraction(top, bottom) for top in NUMBERS for bottom in BOTTOMS})[::5] + [Fraction(0), Fraction(1, 3)]


class Telling(unittest.TestCase):
    def assert_told(self, answer, number):
        self.assertEqual(answer, told(number))
        self.assertTrue(fraction_as_told(answer), answer)

    def test_fraction_by_hand(self):
        self.assertEqual(fraction(6, 4), (3, 2))
        self.assertEqual(fraction(-6, 4), (-3, 2))
        self.assertEqual(fraction(6, -4), (-3, 2))
        self.assertEqual(fraction(-6, -4), (3, 2))
        self.assertEqual(fraction(5, 1), (5, 1))
        self.assertEqual(fraction(5, -1), (-5, 1))
        self.assertEqual(fraction(12, 4), (3, 1))
        self.assertEqual(fraction(7, 9), (7, 9))

    def test_nought_is_told_in_one_way(self):
        for bottom in BOTTOMS:
            self.assertEqual(fraction(0, bottom), (0, 1))
        self.assertEqual(plus((-1, 3), (1, 3)), (0, 1))
        self.assertEqual(minus((2, 7), (2, 7)), (0, 1))
        self.assertEqual(times((0, 1), (-5, 7)), (0, 1))
        self.assertEqual(over((0, 1), (-5, 7)), (0, 1))

    def test_fraction_in_lowest_terms(self):
        for top in NUMBERS:
            for bottom in BOTTOMS:
                self.assert_told(fraction(top, bottom), Fraction(top, bottom))

    def test_by_hand(self):
        self.assertEqual(plus((1, 6), (1, 3)), (1, 2))
        self.assertEqual(minus((1, 6), (2, 3)), (-1, 2))
        self.assertEqual(times((2, 3), (-9, 4)), (-3, 2))
        self.assertEqual(over((2, 3), (-4, 9)), (-3, 2))
        self.assertEqual(over((-2, 3), (-4, 1)), (1, 6))
        self.assertEqual(over((1, 2), (1, 3)), (3, 2))

    def test_reckoned_as_usual(self):
        numbers = samples()
        for a in numbers:
            for b in numbers:
                self.assert_told(plus(told(a), told(b)), a + b)
                self.assert_told(minus(told(a), told(b)), a - b)
                self.assert_told(times(told(a), told(b)), a * b)
                if b != 0:
                    self.assert_told(over(told(a), told(b)), a / b)

    def test_total_and_greater(self):
        self.assertEqual(total(()), (0, 1))
        self.assertEqual(total(((1, 2), (1, 3), (1, 6))), (1, 1))
        self.assertEqual(greater((1, 3), (1, 2)), (1, 2))
        self.assertEqual(greater((1, 3), (-1, 2)), (1, 3))

    def test_over_one_bottom(self):
        self.assertEqual(over_one_bottom(((1, 2), (-2, 3), (4, 1))), ([3, -4, 24], 6))
        self.assertEqual(over_one_bottom(()), ([], 1))

    def test_below_just_where_the_first_is_less(self):
        numbers = samples()
        for a in numbers:
            for b in numbers:
                self.assertIs(below(told(a), told(b)), a < b)
        self.assertIs(below((1, 3), (1, 2)), True)
        self.assertIs(below((1, 2), (1, 2)), False)
        self.assertIs(below((-1, 2), (-1, 3)), True)
        self.assertIs(below((GREAT, GREAT + 1), (1, 1)), True)
        self.assertIs(below((GREAT + 1, GREAT), (1, 1)), False)


class Refused(unittest.TestCase):
    def test_a_bottom_of_nought(self):
        for top in NUMBERS:
            with self.assertRaises(NoNumber):
                fraction(top, 0)

    def test_divided_by_nought(self):
        for number in samples():
            with self.assertRaises(NoNumber):
                over(told(number), (0, 1))


class OfAnyKind(unittest.TestCase):
    def test_as_told_for_everything(self):
        yes = 0
        for thing in things():
            self.assertIs(is_fraction(thing), fraction_as_told(thing), repr(thing)[:80])
            yes += is_fraction(thing)
        self.assertGreater(yes, 20)

    def test_fractions(self):
        for thing in ((0, 1), (1, 1), (-1, 1), (3, 2), (-3, 2), (GREAT, 1), (1, GREAT), (-GREAT, GREAT + 1)):
            self.assertIs(is_fraction(thing), True)
        for number in samples():
            self.assertIs(is_fraction(told(number)), True)

    def test_no_fractions(self):
        wrong = [
            (2, 4), (-2, 4), (0, 2), (0, GREAT), (GREAT, GREAT), (1, 0), (0, 0), (1, -1), (-1, -2), (0, -1),
            (True, 1), (1, True), (False, 1), (True, True), (1, False), (None, 1), (1, None), ("1", 1), (1, "1"), (b"1", 1),
            [1, 2], [0, 1], (1,), (), (1, 2, 3), (1, 2, 1), ((1, 2), 1), (1, (1, 2)), ([1], 2), ((1, 2),), ({}, 1),
            {1: 2, 3: 4}, "12", b"12", 1, 0, True, None, range(1, 3),
        ]
        for thing in wrong:
            self.assertIs(is_fraction(thing), False, repr(thing)[:80])

    def test_whole_numbers(self):
        for thing in (0, 1, -1, GREAT):
            self.assertIs(is_whole(thing), True)
        for thing in (True, False, None, "1", b"1", [1], (1,), {}):
            self.assertIs(is_whole(thing), False)

    def test_nothing_is_changed(self):
        thing = ([1, {"a": [2]}], {1: [3]})
        ahead = copy.deepcopy(thing)
        is_fraction(thing)
        is_fraction([1, 2])
        self.assertEqual(thing, ahead)


if __name__ == "__main__":
    unittest.main()
