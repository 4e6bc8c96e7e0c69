"""The nearest: points 2, 3, 12 and 18, the interface's row `nearest`."""

import copy
import itertools
import random
import unittest
from fractions import Fraction

from tests.mixings import BAD_MEASURES, BAD_SHADES, GOOD, SHADES, bad_shelves, far_of_mixing, some_question
from tests.model import MANYS
from tests.things import GREAT, NO_MANYS, fraction_as_told, things
from vatmatch.errors import NoMany, NoMeasures, NoShade, NoShelf, TooLittle
from vatmatch.nearest import nearest
from vatmatch.simplex import gives_way_first, most_gain
from vatmatch.weighings import bound
from vatmatch.wholes import by_scale

EVEN = ((50, 50), (50, 50))
ANY = ((0, 100), (0, 100))


class NearestCase(unittest.TestCase):
    def check(self, many, shelf, shade, measures):
        """All that point 18 says of an answer; tells its FAR."""
        answer = nearest(many, shelf, shade, measures)
        self.assertEqual([type(part) for part in answer], [tuple] * 3)
        distance, amounts, weights = answer
        self.assertTrue(all(map(fraction_as_told, (distance, *amounts, *weights))), answer)
        self.assertEqual((len(amounts), len(weights)), (len(shelf), many))
        reckoned = [Fraction(*amount) for amount in amounts]
        self.assertEqual(sum(reckoned), measures)
        self.assertTrue(all(0 <= amount <= row[1] for amount, row in zip(reckoned, shelf)))
        self.assertEqual(far_of_mixing(many, shelf, shade, reckoned), distance)
        if distance == (0, 1):
            self.assertEqual(weights, ((0, 1),) * many)
        else:
            self.assertGreater(Fraction(*distance), 0)
            self.assertEqual(sum(abs(Fraction(*weight)) for weight in weights), 1)
            self.assertEqual(bound(many, shelf, shade, measures, weights), distance)
        return distance


class ByHand(NearestCase):
    def test_one_thing(self):
        self.assertEqual(self.check(2, (("a", 5, (1, 1)),), EVEN, 5), (0, 1))
        self.assertEqual(self.check(2, (("a", 5, (1, 3)),), EVEN, 4), (100, 1))
        self.assertEqual(nearest(2, (("a", 5, (1, 1)),), EVEN, 3), ((0, 1), ((3, 1),), ((0, 1), (0, 1))))

    def test_a_match_between_two(self):
        shelf = (("a", 9, (1, 2)), ("b", 9, (3, 1)))
        # Half and half of x of a and 1 - x of b: x/3 + 3(1 - x)/4 is 1/2 where x is 3/5.
        self.assertEqual(nearest(2, shelf, EVEN, 1), ((0, 1), ((3, 5), (2, 5)), ((0, 1), (0, 1))))
        self.assertEqual(nearest(2, shelf, EVEN, 15)[1], ((9, 1), (6, 1)))
        self.assertEqual(self.check(2, shelf, EVEN, 15), (0, 1))
        self.assertEqual(self.check(2, shelf, EVEN, 16), (25, 1))

    def test_what_runs_out(self):
        shelf = (("blue", 9, (0, 1)), ("red", 3, (1, 0)))
        self.assertEqual(self.check(2, shelf, EVEN, 6), (0, 1))
        self.assertEqual(self.check(2, shelf, EVEN, 7), (50, 1))
        self.assertEqual(self.check(2, shelf, EVEN, 12), (300, 1))
        self.assertEqual(nearest(2, shelf, EVEN, 12)[1], ((9, 1), (3, 1)))
        self.assertRaises(TooLittle, nearest, 2, shelf, EVEN, 13)

    def test_a_shade_that_takes_all(self):
        self.assertEqual(self.check(2, GOOD[2], ANY, 12), (0, 1))
        self.assertEqual(self.check(3, GOOD[3], ((0, 100),) * 3, 9999), (0, 1))

    def test_three_stuffs(self):
        shelf = (("a", 9, (1, 0, 0)), ("b", 9, (0, 1, 0)))
        # Of the third stuff a third is wanted, and there is none: the missing third is a whole measure of three.
        thirds = ((33, 33), (33, 33), (34, 34))
        self.assertEqual(self.check(3, shelf, thirds, 3), (102, 1))
        self.assertEqual(self.check(3, shelf, ((100, 100), (0, 0), (0, 0)), 9), (0, 1))
        self.assertEqual(self.check(3, shelf, ((100, 100), (0, 0), (0, 0)), 10), (100, 1))

    def test_four_stuffs(self):
        shelf = tuple((name, 5, tuple(int(at == other) for other in range(4))) for at, name in enumerate("abcd"))
        self.assertEqual(self.check(4, shelf, ((25, 25),) * 4, 20), (0, 1))
        self.assertEqual(self.check(4, shelf, ((40, 40), (20, 20), (20, 20), (20, 20)), 20), (300, 1))
        self.assertEqual(self.check(4, shelf, ((0, 10), (0, 10), (0, 100), (0, 100)), 20), (300, 1))

    def test_things_with_the_same_parts(self):
        shelf = (("a", 2, (1, 3)), ("b", 2, (1, 3)), ("c", 2, (2, 6)), ("d", 2, (1, 3)))
        for measures in range(1, 9):
            self.assertEqual(self.check(2, shelf, EVEN, measures), (25 * measures, 1))
            self.assertEqual(self.check(2, shelf, ((25, 25), (75, 75)), measures), (0, 1))

    def test_left_that_just_lasts(self):
        for many in MANYS:
            shelf = GOOD[many]
            lasting = sum(row[1] for row in shelf)
            if lasting <= 9999:
                self.check(many, shelf, SHADES[many], lasting)
                self.assertEqual(nearest(many, shelf, SHADES[many], lasting)[1], tuple((row[1], 1) for row in shelf))

    def test_the_greatest_measures(self):
        shelf = (("a", 9998, (97, 89)), ("b", 9999, (1, 99)))
        self.assertEqual(self.check(2, shelf, EVEN, 9999), (0, 1))
        self.check(2, shelf, ((60, 60), (40, 40)), 9999)


class ByChance(NearestCase):
    def test_all_that_is_said_of_it(self):
        seen, matched = set(), 0
        for seed in range(1500):
            many, shelf, shade = some_question(seed, great=seed % 25 == 0)
            chance = random.Random(seed)
            lasting = min(9999, sum(row[1] for row in shelf))
            distance = self.check(many, shelf, shade, chance.choice((1, lasting, chance.randint(1, lasting))))
            seen.add((many, len(shelf)))
            matched += distance == (0, 1)
        self.assertEqual(seen, set(itertools.product(MANYS, (1, 2, 3, 4))))
        self.assertTrue(200 < matched < 1300, matched)

    def test_never_farther_than_by_scale(self):
        nearer = 0
        for seed in range(150):
            many, shelf, shade = some_question(seed)
            step, times = random.Random(seed).choice(((1, 1), (1, 5), (1, 12), (3, 4), (10, 3)))
            try:
                distance = by_scale(many, shelf, shade, step * times, step)[0]
            except TooLittle:
                continue
            nearest_distance = self.check(many, shelf, shade, step * times)
            self.assertLessEqual(Fraction(*nearest_distance), Fraction(*distance))
            nearer += nearest_distance != distance
        self.assertGreater(nearer, 10)

    def test_shades_at_their_bounds(self):
        rows = [("a", 4, (3, 1, 0)), ("b", 4, (0, 1, 2)), ("c", 4, (1, 1, 1))]
        for lows in itertools.product((0, 30, 50), repeat=3):
            for wide in (0, 20, 50):
                shade = tuple((low, min(100, low + wide)) for low in lows)
                if sum(lows) <= 100 <= sum(high for low, high in shade):
                    for length in (1, 2, 3):
                        self.check(3, tuple(rows[:length]), shade, 4)

    def test_great_parts(self):
        shelf = (("a", 7, (GREAT, GREAT + 2, 1)), ("b", 8, (1, GREAT, GREAT - 1)), ("c", 9, (GREAT, 0, 5)))
        for shade in (((33, 33), (33, 33), (34, 34)), ((90, 100), (0, 10), (0, 10)), ((0, 100),) * 3):
            for measures in (1, 12, 24):
                self.check(3, shelf, shade, measures)


class TheMost(unittest.TestCase):
    def test_by_hand(self):
        # The most of 3x + 5y with x at most 4, 2y at most 12, 3x + 2y at most 18 is 36, at x 2 and y 6.
        numbers, prices = most_gain([3, 5], [[1, 0], [0, 2], [3, 2]], [4, 12, 18])
        self.assertEqual(numbers, [(2, 1), (6, 1)])
        self.assertEqual(prices, [(0, 1), (3, 2), (1, 1)])
        self.assertEqual(most_gain([1, 1], [[2, 3]], [1]), ([(1, 2), (0, 1)], [(1, 2)]))
        self.assertEqual(most_gain([-1, 0], [[1, 1]], [5]), ([(0, 1), (0, 1)], [(0, 1)]))

    def test_a_limit_that_is_not_reached(self):
        self.assertEqual(most_gain([1], [[1], [1]], [1, 5]), ([(1, 1)], [(1, 1), (0, 1)]))
        self.assertEqual(most_gain([1], [[1], [1]], [5, 1]), ([(1, 1)], [(0, 1), (1, 1)]))

    def test_numbers_and_prices_show_each_other_right(self):
        for seed in range(300):
            chance = random.Random(seed)
            columns, height = chance.randint(1, 5), chance.randint(1, 5)
            gains = [chance.randint(-5, 9) for column in range(columns)]
            # One row has no 0 and nothing below, so nothing gains without end.
            rows = [[chance.randint(-4, 6) for column in range(columns)] for row in range(height - 1)]
            rows.insert(chance.randint(0, height - 1), [chance.randint(1, 6) for column in range(columns)])
            limits = [chance.choice((0, 0, 1, 4, 10)) for row in range(height)]
            numbers, prices = most_gain(gains, rows, limits)
            numbers, prices = [Fraction(*number) for number in numbers], [Fraction(*price) for price in prices]
            self.assertEqual((len(numbers), len(prices)), (columns, height))
            self.assertGreaterEqual(min(numbers + prices), 0)
            for row, limit in zip(rows, limits):
                self.assertLessEqual(sum(map(Fraction.__mul__, numbers, map(Fraction, row))), limit)
            for gain, column in zip(gains, zip(*rows)):
                self.assertGreaterEqual(sum(map(Fraction.__mul__, prices, map(Fraction, column))), gain)
            gained = sum(number * gain for number, gain in zip(numbers, gains))
            self.assertEqual(gained, sum(price * limit for price, limit in zip(prices, limits)))

    def test_of_rows_that_give_way_together_the_lesser_basis(self):
        for one, other, first in (
            ((3, [2, 4]), (5, [1, 2]), True), ((5, [2, 4]), (3, [1, 2]), False),
            ((5, [2, 3]), (3, [1, 2]), True), ((3, [2, 5]), (5, [1, 2]), False),
        ):
            self.assertIs(gives_way_first(one, other, 0), first)

    def test_where_steps_could_come_round_again(self):
        # Beale's example, in whole numbers: by the steepest column this goes round without end.
        rows = [[25, -6000, -4, 900], [50, -9000, -2, 300], [0, 0, 1, 0]]
        numbers, prices = most_gain([75, -15000, 2, -600], rows, [0, 0, 1])
        self.assertEqual(numbers, [(1, 25), (0, 1), (1, 1), (0, 1)])
        self.assertEqual(prices[2], (5, 1))


class Refused(unittest.TestCase):
    def test_no_many(self):
        for many in NO_MANYS:
            for given in ((GOOD[2], SHADES[2], 12), (None, None, 0)):
                self.assertRaises(NoMany, nearest, many, *given)

    def test_no_shelf(self):
        for many in MANYS:
            for shelf in [*bad_shelves(many), *things()]:
                for given in ((SHADES[many], 12), (None, 0), (SHADES[many], 9999)):
                    self.assertRaises(NoShelf, nearest, many, shelf, *given)

    def test_no_shade(self):
        for shade in BAD_SHADES:
            for measures in (12, 0, 9999):
                self.assertRaises(NoShade, nearest, 2, GOOD[2], shade, measures)

    def test_no_measures(self):
        for measures in BAD_MEASURES:
            self.assertRaises(NoMeasures, nearest, 2, GOOD[2], SHADES[2], measures)

    def test_too_little(self):
        for measures in (13, 100, 9999):
            self.assertRaises(TooLittle, nearest, 2, GOOD[2], SHADES[2], measures)


class Unchanged(unittest.TestCase):
    def test_nothing_handed_in_is_changed(self):
        inner = [["a", 1, [1, 1]], {"a": [1]}]
        ahead = copy.deepcopy(inner)
        for thing in (inner, tuple(inner)):
            self.assertRaises(NoMany, nearest, thing, thing, thing, thing)
            self.assertRaises(NoShelf, nearest, 2, thing, thing, thing)
            self.assertRaises(NoShade, nearest, 2, GOOD[2], thing, thing)
            self.assertRaises(NoMeasures, nearest, 2, GOOD[2], SHADES[2], thing)
        self.assertEqual(inner, ahead)

    def test_asked_twice_the_same_is_told(self):
        for many in MANYS:
            question = (many, GOOD[many], SHADES[many], 12)
            self.assertEqual(nearest(*question), nearest(*question))


if __name__ == "__main__":
    unittest.main()
