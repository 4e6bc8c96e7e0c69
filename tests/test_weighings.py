"""Weighings: points 2, 12 and 17, the interface's row `weighings`."""

import copy
import random
import unittest
from fractions import Fraction

from tests.mixings import BAD_MEASURES, BAD_SHADES, GOOD, SHADES, bad_shelves, far_of_mixing, some_question
from tests.model import MANYS, told
from tests.things import GREAT, NO_MANYS, fraction_as_told, put, things
from tests.weighed import BAD_WEIGHTS, NOUGHTS, bound_as_told, some_mixing, some_weights
from vatmatch.errors import NoMany, NoMeasures, NoShade, NoShelf, NoWeights, TooLittle
from vatmatch.weighings import bound


class ByHand(unittest.TestCase):
    shelf = (("blue", 5, (0, 1)), ("red", 7, (3, 1)))
    shade = ((30, 60), (40, 70))

    def test_weights_of_nought(self):
        for many in MANYS:
            self.assertEqual(bound(many, GOOD[many], SHADES[many], 12, NOUGHTS[many]), (0, 1))

    def test_a_weight_above_nought(self):
        # LOWEST is 6 times 30; six measures of red, of which three fourths are the first stuff, weigh 4 1/2.
        self.assertEqual(bound(2, self.shelf, self.shade, 6, ((1, 1), (0, 1))), (180 - 450, 1))
        self.assertEqual(bound(2, self.shelf, self.shade, 6, ((0, 1), (1, 1))), (240 - 525, 1))
        self.assertEqual(bound(2, (("blue", 5, (0, 1)),), self.shade, 4, ((1, 1), (0, 1))), (120, 1))

    def test_a_weight_below_nought(self):
        # LOWEST is -6 times 60; five measures of blue weigh nothing and one of red weighs -3/4.
        self.assertEqual(bound(2, self.shelf, self.shade, 6, ((-1, 1), (0, 1))), (-360 + 75, 1))
        self.assertEqual(bound(2, self.shelf, self.shade, 6, ((0, 1), (-1, 1))), (-420 + 150, 1))

    def test_weights_on_both_sides_and_fractions(self):
        # Blue weighs -1/3, red 3/8 - 1/12: 7/24. LOWEST is 6 times (15 - 70/3).
        self.assertEqual(bound(2, self.shelf, self.shade, 6, ((1, 2), (-1, 3))), (-50 - 175, 1))
        # All that is left, twelve measures: five blue, seven red.
        self.assertEqual(bound(2, self.shelf, self.shade, 12, ((1, 2), (-1, 3))), told(-100 - 100 * Fraction(9, 24)))

    def test_what_weighs_most_goes_in_first(self):
        shelf = (("a", 2, (1, 0)), ("b", 3, (1, 1)), ("c", 4, (0, 1)))
        any_shade = ((0, 100), (0, 100))
        for measures, greatest in ((1, 2), (2, 4), (3, 5), (5, 7), (6, 7), (9, 7)):
            self.assertEqual(bound(2, shelf, any_shade, measures, ((2, 1), (0, 1))), (-100 * greatest, 1))
        for measures, greatest in ((4, 0), (5, -1), (7, -3), (8, -5), (9, -7)):
            lowest = -200 * measures
            self.assertEqual(bound(2, shelf, any_shade, measures, ((-2, 1), (0, 1))), (lowest - 100 * greatest, 1))

    def test_weights_alike_for_all_stuffs(self):
        # A measure of anything weighs the same, so the bound is M times the weight times (LOWs together less 100).
        self.assertEqual(bound(2, self.shelf, self.shade, 12, ((1, 3), (1, 3))), (-120, 1))
        self.assertEqual(bound(2, self.shelf, self.shade, 12, ((-1, 3), (-1, 3))), (-120, 1))


class ByChance(unittest.TestCase):
    def test_as_told(self):
        for seed in range(300):
            many, shelf, shade = some_question(seed, great=seed % 20 == 0)
            chance = random.Random(seed)
            lasting = min(9999, sum(row[1] for row in shelf))
            for measures in {1, lasting, chance.randint(1, lasting)}:
                weights = some_weights(many, chance)
                answer = bound(many, shelf, shade, measures, weights)
                self.assertEqual(answer, bound_as_told(shelf, shade, measures, weights))
                self.assertTrue(fraction_as_told(answer))

    def test_the_sizes_times_far_are_no_less(self):
        just = 0
        for seed in range(150):
            many, shelf, shade = some_question(seed)
            chance = random.Random(seed)
            lasting = min(9999, sum(row[1] for row in shelf))
            measures = chance.choice((1, lasting, chance.randint(1, lasting)))
            for turn in range(4):
                weights = some_weights(many, chance)
                sizes = sum(abs(Fraction(*weight)) for weight in weights)
                set_bound = Fraction(*bound(many, shelf, shade, measures, weights))
                for mixing in range(3):
                    amounts = some_mixing(shelf, measures, chance)
                    self.assertEqual(sum(amounts), measures)
                    distance = Fraction(*far_of_mixing(many, shelf, shade, amounts))
                    self.assertGreaterEqual(sizes * distance, set_bound)
                    just += sizes * distance == set_bound
        self.assertGreater(just, 0)

    def test_great_weights(self):
        weights = ((GREAT, 1), (-1, GREAT))
        self.assertEqual(bound(2, GOOD[2], SHADES[2], 12, weights), bound_as_told(GOOD[2], SHADES[2], 12, weights))
        weights = ((GREAT, GREAT + 1), (-GREAT + 1, GREAT))
        self.assertEqual(bound(2, GOOD[2], SHADES[2], 3, weights), bound_as_told(GOOD[2], SHADES[2], 3, weights))


class Refused(unittest.TestCase):
    def test_no_many(self):
        for many in NO_MANYS:
            for given in ((GOOD[2], SHADES[2], 12, NOUGHTS[2]), (None, None, 0, None)):
                self.assertRaises(NoMany, bound, many, *given)

    def test_no_shelf(self):
        for many in MANYS:
            for shelf in bad_shelves(many):
                for given in ((SHADES[many], 12, NOUGHTS[many]), (None, 0, None), (SHADES[many], 9999, NOUGHTS[many])):
                    self.assertRaises(NoShelf, bound, many, shelf, *given)

    def test_no_shade(self):
        for shade in BAD_SHADES:
            for given in ((12, NOUGHTS[2]), (0, None), (9999, NOUGHTS[2])):
                self.assertRaises(NoShade, bound, 2, GOOD[2], shade, *given)

    def test_no_measures(self):
        for measures in BAD_MEASURES:
            for weights in (NOUGHTS[2], None):
                self.assertRaises(NoMeasures, bound, 2, GOOD[2], SHADES[2], measures, weights)

    def test_no_weights(self):
        for measures in (12, 9999):
            for weights in BAD_WEIGHTS:
                self.assertRaises(NoWeights, bound, 2, GOOD[2], SHADES[2], measures, weights)
            for many in MANYS:
                for other in MANYS:
                    if other != many:
                        self.assertRaises(NoWeights, bound, many, GOOD[many], SHADES[many], 9999, NOUGHTS[other])

    def test_no_weights_of_any_kind(self):
        for many in MANYS:
            for thing in things():
                for weights in (thing, *[put(NOUGHTS[many], place, thing) for place in range(many)]):
                    good = type(weights) is tuple and len(weights) == many and all(map(fraction_as_told, weights))
                    if good:
                        bound(many, GOOD[many], SHADES[many], 12, weights)
                    else:
                        self.assertRaises(NoWeights, bound, many, GOOD[many], SHADES[many], 12, weights)

    def test_too_little_behind_all_others(self):
        shelf = (("a", 5, (1, 1)), ("b", 6, (1, 0)))
        bound(2, shelf, SHADES[2], 11, NOUGHTS[2])
        self.assertRaises(TooLittle, bound, 2, shelf, SHADES[2], 12, NOUGHTS[2])
        self.assertRaises(TooLittle, bound, 2, shelf, SHADES[2], 9999, NOUGHTS[2])
        self.assertRaises(NoWeights, bound, 2, shelf, SHADES[2], 12, None)


class Unchanged(unittest.TestCase):
    def test_nothing_handed_in_is_changed(self):
        inner = [[1, 1], {"a": [1]}]
        ahead = copy.deepcopy(inner)
        for thing in (inner, tuple(inner)):
            self.assertRaises(NoMany, bound, thing, thing, thing, thing, thing)
            self.assertRaises(NoShelf, bound, 2, thing, thing, thing, thing)
            self.assertRaises(NoShade, bound, 2, GOOD[2], thing, thing, thing)
            self.assertRaises(NoMeasures, bound, 2, GOOD[2], SHADES[2], thing, thing)
            self.assertRaises(NoWeights, bound, 2, GOOD[2], SHADES[2], 12, thing)
        self.assertEqual(inner, ahead)

    def test_asked_twice_the_same_is_told(self):
        question = (2, GOOD[2], SHADES[2], 12, ((1, 3), (-2, 3)))
        self.assertEqual(bound(*question), bound(*question))


if __name__ == "__main__":
    unittest.main()
