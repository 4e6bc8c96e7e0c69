"""Whole measures: points 2, 12 and 13, the interface's row `wholes`."""

import copy
import itertools
import random
import unittest
from fractions import Fraction

from tests.mixings import (
    BAD_MEASURES, BAD_SHADES, GOOD, SHADES, bad_shelves, bad_shelves_of_any_kind, far_of_mixing, shelf_is_told,
    some_question,
)
from tests.model import MANYS
from tests.things import GREAT, NO_MANYS, fraction_as_told, shade_as_told, things, whole
from vatmatch.errors import NoMany, NoMeasures, NoShade, NoShelf, NoStep, TooLittle
from vatmatch.shelves import is_shelf
from vatmatch.wholes import by_scale

BAD_STEPS = [0, -1, 5, 7, 24, GREAT, True, False, None, "1", b"1", (1,), [1], {}, (1, 1), len]
EVEN = ((50, 50), (50, 50))
ANY = ((0, 100), (0, 100))


def searched(many, shelf, shade, measures, step):
    """Point 13 by a plain search through all mixings by the scale, or None without any."""
    found = []
    for amounts in itertools.product(range(0, measures + 1, step), repeat=len(shelf)):
        if sum(amounts) == measures and all(amount <= row[1] for amount, row in zip(amounts, shelf)):
            found.append((far_of_mixing(many, shelf, shade, amounts), amounts))
    if not found:
        return None
    least = min(Fraction(*distance) for distance, amounts in found)
    found = [row for row in found if Fraction(*row[0]) == least]
    fewest = min(sum(amount > 0 for amount in amounts) for distance, amounts in found)
    return max(row for row in found if sum(amount > 0 for amount in row[1]) == fewest)


class ByHand(unittest.TestCase):
    def test_one_thing(self):
        self.assertEqual(by_scale(2, (("a", 5, (1, 1)),), EVEN, 5, 5), ((0, 1), (5,)))
        self.assertEqual(by_scale(2, (("a", 5, (1, 3)),), EVEN, 4, 1), ((100, 1), (4,)))
        self.assertEqual(by_scale(2, (("a", 9999, (1, 2)),), EVEN, 9999, 9999), ((166650, 1), (9999,)))

    def test_two_things(self):
        shelf = (("blue", 9, (0, 1)), ("red", 9, (1, 0)))
        self.assertEqual(by_scale(2, shelf, EVEN, 6, 1), ((0, 1), (3, 3)))
        self.assertEqual(by_scale(2, shelf, ((100, 100), (0, 0)), 6, 1), ((0, 1), (0, 6)))
        self.assertEqual(by_scale(2, shelf, ((100, 100), (0, 0)), 12, 1), ((300, 1), (3, 9)))
        self.assertEqual(by_scale(2, shelf, EVEN, 12, 4), ((200, 1), (8, 4)))
        self.assertEqual(by_scale(2, shelf, ((30, 35), (65, 70)), 9, 3), ((0, 1), (6, 3)))

    def test_a_far_that_is_no_whole_number(self):
        shelf = (("a", 2, (1, 2)), ("b", 2, (1, 6)))
        self.assertEqual(by_scale(2, shelf, EVEN, 2, 1), ((100, 3), (2, 0)))
        self.assertEqual(by_scale(2, shelf, EVEN, 4, 2), ((100 * 22, 21), (2, 2)))

    def test_the_step_goes_once_and_twelve_times(self):
        shelf = (("blue", 24, (0, 1)), ("red", 24, (1, 0)))
        self.assertEqual(by_scale(2, shelf, EVEN, 24, 24), ((1200, 1), (24, 0)))
        self.assertEqual(by_scale(2, shelf, EVEN, 24, 2), ((0, 1), (12, 12)))
        self.assertEqual(by_scale(2, shelf, ((42, 42), (58, 58)), 24, 2), ((8, 1), (14, 10)))

    def test_as_near_with_the_fewest(self):
        shelf = (("a", 9, (1, 0)), ("b", 9, (0, 1)), ("c", 9, (1, 1)))
        self.assertEqual(by_scale(2, shelf, EVEN, 6, 1), ((0, 1), (0, 0, 6)))
        self.assertEqual(by_scale(2, shelf, EVEN, 6, 6), ((0, 1), (0, 0, 6)))
        self.assertEqual(by_scale(2, shelf[:2] + (("c", 4, (1, 1)),), EVEN, 6, 1), ((0, 1), (3, 3, 0)))

    def test_as_near_and_as_few_the_greatest(self):
        shelf = (("a", 9, (1, 1)), ("b", 9, (2, 2)), ("c", 9, (3, 3)))
        self.assertEqual(by_scale(2, shelf, EVEN, 8, 1), ((0, 1), (8, 0, 0)))
        self.assertEqual(by_scale(2, shelf, EVEN, 12, 1), ((0, 1), (9, 3, 0)))
        shelf = (("a", 2, (1, 1)), ("b", 9, (2, 2)), ("c", 9, (3, 3)))
        self.assertEqual(by_scale(2, shelf, EVEN, 8, 1), ((0, 1), (0, 8, 0)))
        self.assertEqual(by_scale(2, shelf, ANY, 10, 1), ((0, 1), (2, 8, 0)))
        self.assertEqual(by_scale(2, shelf, ANY, 12, 1), ((0, 1), (0, 9, 3)))

    def test_nearer_goes_ahead_of_fewer(self):
        shelf = (("a", 9, (1, 0)), ("b", 9, (0, 1)), ("c", 9, (49, 51)))
        self.assertEqual(by_scale(2, shelf, EVEN, 8, 1), ((0, 1), (4, 4, 0)))
        self.assertEqual(by_scale(2, shelf, EVEN, 7, 1), ((1, 1), (3, 3, 1)))

    def test_four_things(self):
        shelf = tuple((name, 3, tuple(int(at == other) for other in range(4))) for at, name in enumerate("abcd"))
        self.assertEqual(by_scale(4, shelf, ((25, 25),) * 4, 12, 1), ((0, 1), (3, 3, 3, 3)))
        self.assertEqual(by_scale(4, shelf, ((25, 25),) * 4, 6, 3), ((150, 1), (3, 3, 0, 0)))


class Searched(unittest.TestCase):
    def test_held_against_a_plain_search(self):
        sizes, little = set(), 0
        for seed in range(160):
            many, shelf, shade = some_question(seed)
            chance = random.Random(seed)
            times, step = chance.choice((1, 2, 3, 4, 5, 7, 12)), chance.choice((1, 1, 2, 3, 10))
            expected = searched(many, shelf, shade, times * step, step)
            sizes.add(len(shelf))
            if expected is None:
                little += 1
                self.assertRaises(TooLittle, by_scale, many, shelf, shade, times * step, step)
            else:
                answer = by_scale(many, shelf, shade, times * step, step)
                self.assertEqual(answer, expected, (many, shelf, shade, times, step))
                self.check_kinds(answer)
        self.assertEqual(sizes, {1, 2, 3, 4})
        self.assertGreater(little, 5)

    def check_kinds(self, answer):
        self.assertTrue(type(answer) is tuple and type(answer[1]) is tuple)
        self.assertTrue(fraction_as_told(answer[0]) and all(whole(amount) for amount in answer[1]))

    def test_great_parts(self):
        for seed in range(12):
            many, shelf, shade = some_question(seed, great=True)
            shelf = tuple((name, 12, parts) for name, left, parts in shelf)
            self.assertEqual(by_scale(many, shelf, shade, 4, 1), searched(many, shelf, shade, 4, 1))


class Little(unittest.TestCase):
    def test_all_left_together_are_less(self):
        shelf = (("a", 5, (1, 1)), ("b", 6, (1, 0)))
        self.assertEqual(by_scale(2, shelf, ANY, 11, 1)[1], (5, 6))
        self.assertRaises(TooLittle, by_scale, 2, shelf, ANY, 12, 1)
        self.assertRaises(TooLittle, by_scale, 2, shelf, ANY, 9999, 9999)

    def test_enough_but_nothing_by_the_scale(self):
        shelf = (("a", 5, (1, 1)), ("b", 5, (1, 0)), ("c", 5, (0, 1)))
        self.assertRaises(TooLittle, by_scale, 2, shelf, ANY, 6, 6)
        self.assertRaises(TooLittle, by_scale, 2, shelf, ANY, 12, 3)
        self.assertEqual(by_scale(2, shelf, ANY, 9, 3), ((0, 1), (3, 3, 3)))
        self.assertEqual(by_scale(2, shelf, ANY, 5, 5), ((0, 1), (5, 0, 0)))


class Refused(unittest.TestCase):
    def test_no_many(self):
        for many in NO_MANYS:
            for shelf in (GOOD[2], None, []):
                for shade, measures, step in ((SHADES[2], 12, 1), (None, 0, None)):
                    self.assertRaises(NoMany, by_scale, many, shelf, shade, measures, step)
                self.assertRaises(NoMany, is_shelf, many, shelf)

    def test_no_shelf(self):
        for many in MANYS:
            for shelf in bad_shelves(many):
                for shade, measures, step in ((SHADES[many], 12, 1), (SHADES[many], 9999, 9999), (None, 0, None)):
                    self.assertRaises(NoShelf, by_scale, many, shelf, shade, measures, step)
            for other in MANYS:
                if other != many:
                    self.assertRaises(NoShelf, by_scale, many, GOOD[other], SHADES[many], 12, 1)

    def test_no_shelf_of_any_kind(self):
        for many in MANYS:
            for shelf in bad_shelves_of_any_kind(many):
                self.assertIs(is_shelf(many, shelf), False, repr(shelf)[:100])
            for shelf in things():
                self.assertRaises(NoShelf, by_scale, many, shelf, SHADES[many], 12, 1)

    def test_shelves(self):
        for many in MANYS:
            self.assertIs(is_shelf(many, GOOD[many]), True)
            for left in (1, 9999):
                for name in ("a", "zzzzzz"):
                    self.assertIs(is_shelf(many, ((name, left, (0,) * (many - 1) + (GREAT,)),)), True)
            rows = tuple((name, 1, (1,) * many) for name in ("a", "ab", "b", "ba", "bb"))
            for length in range(6):
                self.assertIs(is_shelf(many, rows[:length]), 1 <= length <= 4)
            for names in itertools.product(("a", "b", "ab"), repeat=3):
                shelf = tuple((name, 1, (1,) * many) for name in names)
                self.assertIs(is_shelf(many, shelf), shelf_is_told(many, shelf))

    def test_no_shade(self):
        for many in MANYS:
            for shade in [*BAD_SHADES, *things()]:
                if not shade_as_told(many, shade):
                    for measures, step in ((12, 1), (9999, 9999), (0, None)):
                        self.assertRaises(NoShade, by_scale, many, GOOD[many], shade, measures, step)

    def test_no_measures(self):
        for many in MANYS:
            for measures in BAD_MEASURES:
                for step in (1, 0, None):
                    self.assertRaises(NoMeasures, by_scale, many, GOOD[many], SHADES[many], measures, step)
        for measures in things():
            if not (whole(measures) and 1 <= measures <= 9999):
                self.assertRaises(NoMeasures, by_scale, 2, GOOD[2], SHADES[2], measures, 1)

    def test_no_step(self):
        for step in BAD_STEPS:
            self.assertRaises(NoStep, by_scale, 2, GOOD[2], SHADES[2], 12, step)
        for step in things():
            if not (whole(step) and step in (1, 2, 3, 4, 6, 12)):
                self.assertRaises(NoStep, by_scale, 2, GOOD[2], SHADES[2], 12, step)
        self.assertRaises(NoStep, by_scale, 3, GOOD[3], SHADES[3], 13, 1)
        self.assertRaises(NoStep, by_scale, 3, GOOD[3], SHADES[3], 26, 2)
        self.assertRaises(NoStep, by_scale, 3, GOOD[3], SHADES[3], 9999, 1)
        by_scale(3, GOOD[3], SHADES[3], 13, 13)
        by_scale(3, GOOD[3], SHADES[3], 24, 2)

    def test_too_little_behind_all_others(self):
        shelf = (("a", 1, (1, 1)),)
        self.assertRaises(NoShade, by_scale, 2, shelf, None, 12, 1)
        self.assertRaises(NoMeasures, by_scale, 2, shelf, ANY, 10000, 1)
        for step in BAD_STEPS:
            self.assertRaises(NoStep, by_scale, 2, shelf, ANY, 12, step)
        self.assertRaises(TooLittle, by_scale, 2, shelf, ANY, 12, 12)


class Unchanged(unittest.TestCase):
    def test_nothing_handed_in_is_changed(self):
        inner = [["a", 1, [1, 1]], {"a": [1]}]
        ahead = copy.deepcopy(inner)
        for thing in (inner, tuple(inner)):
            self.assertRaises(NoMany, by_scale, thing, thing, thing, thing, thing)
            self.assertRaises(NoShelf, by_scale, 2, thing, thing, thing, thing)
            self.assertRaises(NoShade, by_scale, 2, GOOD[2], thing, thing, thing)
            self.assertRaises(NoMeasures, by_scale, 2, GOOD[2], SHADES[2], thing, thing)
            self.assertRaises(NoStep, by_scale, 2, GOOD[2], SHADES[2], 12, thing)
        self.assertEqual(inner, ahead)

    def test_asked_twice_the_same_is_told(self):
        for many in MANYS:
            question = (many, GOOD[many], SHADES[many], 12, 1)
            self.assertEqual(by_scale(*question), by_scale(*question))


if __name__ == "__main__":
    unittest.main()
